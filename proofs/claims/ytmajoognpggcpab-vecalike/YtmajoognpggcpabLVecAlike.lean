/- VecAlike: for all amounts and weights of int64 the law's call returns true. No further conditions. -/
import Derived.Test.YtmajoognpggcpabVH
import Derived.Test.YtmajoognpggcpabOpen
namespace Go.Proofs.Ytmajoognpggcpab.vecAlike
open Go.ChangeShapes Go.WideShapes Go.ChangeAt Go.RowKit
set_option linter.unusedVariables false

/-- Twice a share, or the share of nothing. -/
def Dbl (f g : Int × Int) : Prop := (0 < f.2 ∧ g.2 = f.2 ∧ g.1 = 2 * f.1) ∨ (f = (1, 0) ∧ g = (1, 0))
theorem dbl_shr {c p : Int} (hc : okp c) (hp : okp p) : Dbl (shr c p) (shr (2 * c) p) := by
  unfold okp at hc hp
  unfold shr
  by_cases h : 0 < p
  · rw [if_pos h, if_pos h]; exact Or.inl ⟨h, rfl, rfl⟩
  · rw [if_neg h, if_neg h]
    by_cases k : 0 < c
    · rw [if_pos k, if_pos (by omega)]; exact Or.inr ⟨rfl, rfl⟩
    · rw [if_neg k, if_neg (by omega)]; exact Or.inl ⟨by decide, rfl, rfl⟩
theorem dbl_fc {f g f' g' : Int × Int} (h : Dbl f g) (h' : Dbl f' g') : fc g g' = fc f f' := by
  obtain ⟨f1, f2⟩ := f; obtain ⟨g1, g2⟩ := g; obtain ⟨k1, k2⟩ := f'; obtain ⟨l1, l2⟩ := g'
  unfold Dbl at h h'
  simp only [Prod.mk.injEq] at h h'
  unfold fc
  simp only
  rcases h with ⟨a, rfl, rfl⟩ | ⟨⟨rfl, rfl⟩, rfl, rfl⟩
  · rcases h' with ⟨b, rfl, rfl⟩ | ⟨⟨rfl, rfl⟩, rfl, rfl⟩
    · rw [if_neg (by omega), if_neg (by omega), Int.mul_assoc, Int.mul_assoc]
      unfold ord; repeat' split <;> omega
    · rw [if_pos (by omega), if_pos (by omega)]
  · rcases h' with ⟨b, rfl, rfl⟩ | ⟨⟨rfl, rfl⟩, rfl, rfl⟩
    · rw [if_pos (by omega), if_pos (by omega)]
    · rfl
theorem dbl_dom {c m p q : Int} (hc : okp c) (hm : okp m) (hp : okp p) (hq : okp q) : Dbl (dom c m p q) (dom (2 * c) (2 * m) p q) := by
  unfold dom
  rw [dbl_fc (dbl_shr hm hq) (dbl_shr hc hp)]
  split
  · exact dbl_shr hm hq
  · exact dbl_shr hc hp
theorem lev_zero {c m x p q : Int} (hc : okp c) (hm : okp m) (hp : okp p) (hq : okp q) (hx : 1 ≤ x) : lev c m x (2 * c) (2 * m) (2 * x) p q = 0 := by
  have h := dbl_dom hc hm hp hq
  unfold lev
  generalize dom c m p q = f at *
  generalize dom (2 * c) (2 * m) p q = g at *
  obtain ⟨f1, f2⟩ := f; obtain ⟨g1, g2⟩ := g
  unfold Dbl at h
  simp only [Prod.mk.injEq] at h
  unfold fc
  simp only
  rcases h with ⟨a, rfl, rfl⟩ | ⟨⟨rfl, rfl⟩, rfl, rfl⟩
  · have k : 0 < g2 * x := Int.mul_pos a (by omega)
    have e1 : g2 * (2 * x) = 2 * (g2 * x) := by rw [Int.mul_left_comm]
    rw [e1, if_neg (by omega), show f1 * (2 * (g2 * x)) = 2 * f1 * (g2 * x) by rw [Int.mul_left_comm, Int.mul_assoc]]
    unfold ord; repeat' split <;> omega
  · simp [ord]

set_option maxHeartbeats 4000000 in
theorem case0 (c m x p q : Int) (w : World) (HK : Hid (chks [(c, m), (p, q)] = 1)) :
    Calls Try.prog 6 #[.agg #[.int .i64 c, .int .i64 m], .int .i64 x, .agg #[.int .i64 p, .int .i64 q]] w fun e w' => e = .returned (.bool true) ∧ Below w.heap.size w w' := by
  go_enter Try.func6, Try.ntmps6
  go_wp2_with fail
  refine (awake2_any _).mono ?_
  rintro e w1 ⟨rfl, h1⟩
  have g1 : Below w.heap.size w w1 := Below.trans (by repeat (first | exact Below.refl _ _ | assumption | refine Below.alloc ?_ (by simp <;> omega) _ | refine Below.setCell ?_ (by simp <;> omega) _ | refine Below.drew ?_ | refine below_drewN ?_ _)) (h1.mono (by simp <;> omega))
  have x1_0 := keepc h1 (a := ⟨w.heap.size, 0, none⟩) (v := .int .i64 (c)) (by simp [go_sem])
  have x1_1 := keepc h1 (a := ⟨w.heap.size, 1, none⟩) (v := .int .i64 (m)) (by simp [go_sem])
  have x1_2 := keepc h1 (a := ⟨w.heap.size + 1, 0, none⟩) (v := .int .i64 (p)) (by simp [go_sem])
  have x1_3 := keepc h1 (a := ⟨w.heap.size + 1, 1, none⟩) (v := .int .i64 (q)) (by simp [go_sem])
  have q1 := g1
  clear g1 h1
  go_wp2_with fail
  refine (rcheck_any _ 2 2 [(c, m), (p, q)] _ (row2_two (by simp [go_sem]) (by simp [go_sem]) (by simp [go_sem]) (by simp [go_sem]))).mono ?_
  rintro e w2 ⟨rfl, h2⟩
  have g2 : Below w1.heap.size w1 w2 := Below.trans (by repeat (first | exact Below.refl _ _ | assumption | refine Below.alloc ?_ (by simp <;> omega) _ | refine Below.setCell ?_ (by simp <;> omega) _ | refine Below.drew ?_ | refine below_drewN ?_ _)) (h2.mono (by simp <;> omega))
  have x2_0 := keepc g2 x1_0
  have x2_1 := keepc g2 x1_1
  have x2_2 := keepc g2 x1_2
  have x2_3 := keepc g2 x1_3
  clear x1_0 x1_1 x1_2 x1_3
  have q2 := q1.trans (g2.mono q1.size)
  clear g2 h2 q1
  rw [HK.out]
  go_wp2
  go_ret
  exact ⟨rfl, q2⟩

set_option maxHeartbeats 4000000 in
theorem case1 (c m x p q : Int) (w : World) (HK : Hid (chks [(c, m), (p, q)] = 0)) (t1 : decide (x < 1) = true) :
    Calls Try.prog 6 #[.agg #[.int .i64 c, .int .i64 m], .int .i64 x, .agg #[.int .i64 p, .int .i64 q]] w fun e w' => e = .returned (.bool true) ∧ Below w.heap.size w w' := by
  go_enter Try.func6, Try.ntmps6
  go_wp2_with fail
  refine (awake2_any _).mono ?_
  rintro e w1 ⟨rfl, h1⟩
  have g1 : Below w.heap.size w w1 := Below.trans (by repeat (first | exact Below.refl _ _ | assumption | refine Below.alloc ?_ (by simp <;> omega) _ | refine Below.setCell ?_ (by simp <;> omega) _ | refine Below.drew ?_ | refine below_drewN ?_ _)) (h1.mono (by simp <;> omega))
  have x1_0 := keepc h1 (a := ⟨w.heap.size, 0, none⟩) (v := .int .i64 (c)) (by simp [go_sem])
  have x1_1 := keepc h1 (a := ⟨w.heap.size, 1, none⟩) (v := .int .i64 (m)) (by simp [go_sem])
  have x1_2 := keepc h1 (a := ⟨w.heap.size + 1, 0, none⟩) (v := .int .i64 (p)) (by simp [go_sem])
  have x1_3 := keepc h1 (a := ⟨w.heap.size + 1, 1, none⟩) (v := .int .i64 (q)) (by simp [go_sem])
  have q1 := g1
  clear g1 h1
  go_wp2_with fail
  refine (rcheck_any _ 2 2 [(c, m), (p, q)] _ (row2_two (by simp [go_sem]) (by simp [go_sem]) (by simp [go_sem]) (by simp [go_sem]))).mono ?_
  rintro e w2 ⟨rfl, h2⟩
  have g2 : Below w1.heap.size w1 w2 := Below.trans (by repeat (first | exact Below.refl _ _ | assumption | refine Below.alloc ?_ (by simp <;> omega) _ | refine Below.setCell ?_ (by simp <;> omega) _ | refine Below.drew ?_ | refine below_drewN ?_ _)) (h2.mono (by simp <;> omega))
  have x2_0 := keepc g2 x1_0
  have x2_1 := keepc g2 x1_1
  have x2_2 := keepc g2 x1_2
  have x2_3 := keepc g2 x1_3
  clear x1_0 x1_1 x1_2 x1_3
  have q2 := q1.trans (g2.mono q1.size)
  clear g2 h2 q1
  rw [HK.out]
  go_wp2
  go_ret
  exact ⟨rfl, q2⟩

set_option maxHeartbeats 4000000 in
theorem case2 (c m x p q : Int) (w : World) (HK : Hid (chks [(c, m), (p, q)] = 0)) (t1 : decide (x < 1) = false) (t2 : decide (524288 < x) = true) :
    Calls Try.prog 6 #[.agg #[.int .i64 c, .int .i64 m], .int .i64 x, .agg #[.int .i64 p, .int .i64 q]] w fun e w' => e = .returned (.bool true) ∧ Below w.heap.size w w' := by
  go_enter Try.func6, Try.ntmps6
  go_wp2_with fail
  refine (awake2_any _).mono ?_
  rintro e w1 ⟨rfl, h1⟩
  have g1 : Below w.heap.size w w1 := Below.trans (by repeat (first | exact Below.refl _ _ | assumption | refine Below.alloc ?_ (by simp <;> omega) _ | refine Below.setCell ?_ (by simp <;> omega) _ | refine Below.drew ?_ | refine below_drewN ?_ _)) (h1.mono (by simp <;> omega))
  have x1_0 := keepc h1 (a := ⟨w.heap.size, 0, none⟩) (v := .int .i64 (c)) (by simp [go_sem])
  have x1_1 := keepc h1 (a := ⟨w.heap.size, 1, none⟩) (v := .int .i64 (m)) (by simp [go_sem])
  have x1_2 := keepc h1 (a := ⟨w.heap.size + 1, 0, none⟩) (v := .int .i64 (p)) (by simp [go_sem])
  have x1_3 := keepc h1 (a := ⟨w.heap.size + 1, 1, none⟩) (v := .int .i64 (q)) (by simp [go_sem])
  have q1 := g1
  clear g1 h1
  go_wp2_with fail
  refine (rcheck_any _ 2 2 [(c, m), (p, q)] _ (row2_two (by simp [go_sem]) (by simp [go_sem]) (by simp [go_sem]) (by simp [go_sem]))).mono ?_
  rintro e w2 ⟨rfl, h2⟩
  have g2 : Below w1.heap.size w1 w2 := Below.trans (by repeat (first | exact Below.refl _ _ | assumption | refine Below.alloc ?_ (by simp <;> omega) _ | refine Below.setCell ?_ (by simp <;> omega) _ | refine Below.drew ?_ | refine below_drewN ?_ _)) (h2.mono (by simp <;> omega))
  have x2_0 := keepc g2 x1_0
  have x2_1 := keepc g2 x1_1
  have x2_2 := keepc g2 x1_2
  have x2_3 := keepc g2 x1_3
  clear x1_0 x1_1 x1_2 x1_3
  have q2 := q1.trans (g2.mono q1.size)
  clear g2 h2 q1
  rw [HK.out]
  go_wp2
  go_ret
  exact ⟨rfl, q2⟩

set_option maxHeartbeats 4000000 in
theorem case3 (c m x p q : Int) (w : World) (HK : Hid (chks [(c, m), (p, q)] = 0)) (t1 : decide (x < 1) = false) (t2 : decide (524288 < x) = false) (t3 : decide (549755813888 < c) = true) :
    Calls Try.prog 6 #[.agg #[.int .i64 c, .int .i64 m], .int .i64 x, .agg #[.int .i64 p, .int .i64 q]] w fun e w' => e = .returned (.bool true) ∧ Below w.heap.size w w' := by
  go_enter Try.func6, Try.ntmps6
  go_wp2_with fail
  refine (awake2_any _).mono ?_
  rintro e w1 ⟨rfl, h1⟩
  have g1 : Below w.heap.size w w1 := Below.trans (by repeat (first | exact Below.refl _ _ | assumption | refine Below.alloc ?_ (by simp <;> omega) _ | refine Below.setCell ?_ (by simp <;> omega) _ | refine Below.drew ?_ | refine below_drewN ?_ _)) (h1.mono (by simp <;> omega))
  have x1_0 := keepc h1 (a := ⟨w.heap.size, 0, none⟩) (v := .int .i64 (c)) (by simp [go_sem])
  have x1_1 := keepc h1 (a := ⟨w.heap.size, 1, none⟩) (v := .int .i64 (m)) (by simp [go_sem])
  have x1_2 := keepc h1 (a := ⟨w.heap.size + 1, 0, none⟩) (v := .int .i64 (p)) (by simp [go_sem])
  have x1_3 := keepc h1 (a := ⟨w.heap.size + 1, 1, none⟩) (v := .int .i64 (q)) (by simp [go_sem])
  have q1 := g1
  clear g1 h1
  go_wp2_with fail
  refine (rcheck_any _ 2 2 [(c, m), (p, q)] _ (row2_two (by simp [go_sem]) (by simp [go_sem]) (by simp [go_sem]) (by simp [go_sem]))).mono ?_
  rintro e w2 ⟨rfl, h2⟩
  have g2 : Below w1.heap.size w1 w2 := Below.trans (by repeat (first | exact Below.refl _ _ | assumption | refine Below.alloc ?_ (by simp <;> omega) _ | refine Below.setCell ?_ (by simp <;> omega) _ | refine Below.drew ?_ | refine below_drewN ?_ _)) (h2.mono (by simp <;> omega))
  have x2_0 := keepc g2 x1_0
  have x2_1 := keepc g2 x1_1
  have x2_2 := keepc g2 x1_2
  have x2_3 := keepc g2 x1_3
  clear x1_0 x1_1 x1_2 x1_3
  have q2 := q1.trans (g2.mono q1.size)
  clear g2 h2 q1
  rw [HK.out]
  go_wp2
  go_ret
  exact ⟨rfl, q2⟩

set_option maxHeartbeats 4000000 in
theorem case4 (c m x p q : Int) (w : World) (HK : Hid (chks [(c, m), (p, q)] = 0)) (t1 : decide (x < 1) = false) (t2 : decide (524288 < x) = false) (t3 : decide (549755813888 < c) = false) (t4 : decide (549755813888 < m) = true) :
    Calls Try.prog 6 #[.agg #[.int .i64 c, .int .i64 m], .int .i64 x, .agg #[.int .i64 p, .int .i64 q]] w fun e w' => e = .returned (.bool true) ∧ Below w.heap.size w w' := by
  go_enter Try.func6, Try.ntmps6
  go_wp2_with fail
  refine (awake2_any _).mono ?_
  rintro e w1 ⟨rfl, h1⟩
  have g1 : Below w.heap.size w w1 := Below.trans (by repeat (first | exact Below.refl _ _ | assumption | refine Below.alloc ?_ (by simp <;> omega) _ | refine Below.setCell ?_ (by simp <;> omega) _ | refine Below.drew ?_ | refine below_drewN ?_ _)) (h1.mono (by simp <;> omega))
  have x1_0 := keepc h1 (a := ⟨w.heap.size, 0, none⟩) (v := .int .i64 (c)) (by simp [go_sem])
  have x1_1 := keepc h1 (a := ⟨w.heap.size, 1, none⟩) (v := .int .i64 (m)) (by simp [go_sem])
  have x1_2 := keepc h1 (a := ⟨w.heap.size + 1, 0, none⟩) (v := .int .i64 (p)) (by simp [go_sem])
  have x1_3 := keepc h1 (a := ⟨w.heap.size + 1, 1, none⟩) (v := .int .i64 (q)) (by simp [go_sem])
  have q1 := g1
  clear g1 h1
  go_wp2_with fail
  refine (rcheck_any _ 2 2 [(c, m), (p, q)] _ (row2_two (by simp [go_sem]) (by simp [go_sem]) (by simp [go_sem]) (by simp [go_sem]))).mono ?_
  rintro e w2 ⟨rfl, h2⟩
  have g2 : Below w1.heap.size w1 w2 := Below.trans (by repeat (first | exact Below.refl _ _ | assumption | refine Below.alloc ?_ (by simp <;> omega) _ | refine Below.setCell ?_ (by simp <;> omega) _ | refine Below.drew ?_ | refine below_drewN ?_ _)) (h2.mono (by simp <;> omega))
  have x2_0 := keepc g2 x1_0
  have x2_1 := keepc g2 x1_1
  have x2_2 := keepc g2 x1_2
  have x2_3 := keepc g2 x1_3
  clear x1_0 x1_1 x1_2 x1_3
  have q2 := q1.trans (g2.mono q1.size)
  clear g2 h2 q1
  rw [HK.out]
  go_wp2
  go_ret
  exact ⟨rfl, q2⟩

set_option maxHeartbeats 4000000 in
theorem case5 (c m x p q : Int) (w : World) (HK : Hid (chks [(c, m), (p, q)] = 0)) (t1 : decide (x < 1) = false) (t2 : decide (524288 < x) = false) (t3 : decide (549755813888 < c) = false) (t4 : decide (549755813888 < m) = false) (b1 : IntKind.i64.wrap (2 * c) = 2 * c) (b2 : IntKind.i64.wrap (2 * m) = 2 * m) (b3 : IntKind.i64.wrap (2 * x) = 2 * x) (CL : Hid (∀ w : World, Calls Try.prog 14 #[.agg #[.int .i64 c, .int .i64 m], .int .i64 x, .agg #[.int .i64 (2 * c), .int .i64 (2 * m)], .int .i64 (2 * x), .agg #[.int .i64 p, .int .i64 q]] w fun e w' => e = .returned (.tuple #[.int .i64 0, .int .i64 0]) ∧ Below w.heap.size w w')) :
    Calls Try.prog 6 #[.agg #[.int .i64 c, .int .i64 m], .int .i64 x, .agg #[.int .i64 p, .int .i64 q]] w fun e w' => e = .returned (.bool true) ∧ Below w.heap.size w w' := by
  go_enter Try.func6, Try.ntmps6
  go_wp2_with fail
  refine (awake2_any _).mono ?_
  rintro e w1 ⟨rfl, h1⟩
  have g1 : Below w.heap.size w w1 := Below.trans (by repeat (first | exact Below.refl _ _ | assumption | refine Below.alloc ?_ (by simp <;> omega) _ | refine Below.setCell ?_ (by simp <;> omega) _ | refine Below.drew ?_ | refine below_drewN ?_ _)) (h1.mono (by simp <;> omega))
  have x1_0 := keepc h1 (a := ⟨w.heap.size, 0, none⟩) (v := .int .i64 (c)) (by simp [go_sem])
  have x1_1 := keepc h1 (a := ⟨w.heap.size, 1, none⟩) (v := .int .i64 (m)) (by simp [go_sem])
  have x1_2 := keepc h1 (a := ⟨w.heap.size + 1, 0, none⟩) (v := .int .i64 (p)) (by simp [go_sem])
  have x1_3 := keepc h1 (a := ⟨w.heap.size + 1, 1, none⟩) (v := .int .i64 (q)) (by simp [go_sem])
  have q1 := g1
  clear g1 h1
  go_wp2_with fail
  refine (rcheck_any _ 2 2 [(c, m), (p, q)] _ (row2_two (by simp [go_sem]) (by simp [go_sem]) (by simp [go_sem]) (by simp [go_sem]))).mono ?_
  rintro e w2 ⟨rfl, h2⟩
  have g2 : Below w1.heap.size w1 w2 := Below.trans (by repeat (first | exact Below.refl _ _ | assumption | refine Below.alloc ?_ (by simp <;> omega) _ | refine Below.setCell ?_ (by simp <;> omega) _ | refine Below.drew ?_ | refine below_drewN ?_ _)) (h2.mono (by simp <;> omega))
  have x2_0 := keepc g2 x1_0
  have x2_1 := keepc g2 x1_1
  have x2_2 := keepc g2 x1_2
  have x2_3 := keepc g2 x1_3
  clear x1_0 x1_1 x1_2 x1_3
  have q2 := q1.trans (g2.mono q1.size)
  clear g2 h2 q1
  rw [HK.out]
  go_wp2_with fail
  refine (CL.out _).mono ?_
  rintro e w3 ⟨rfl, h3⟩
  have g3 : Below w2.heap.size w2 w3 := Below.trans (by repeat (first | exact Below.refl _ _ | assumption | refine Below.alloc ?_ (by simp <;> omega) _ | refine Below.setCell ?_ (by simp <;> omega) _ | refine Below.drew ?_ | refine below_drewN ?_ _)) (h3.mono (by simp <;> omega))
  have x3_0 := keepc g3 x2_0
  have x3_1 := keepc g3 x2_1
  have x3_2 := keepc g3 x2_2
  have x3_3 := keepc g3 x2_3
  clear x2_0 x2_1 x2_2 x2_3
  have q3 := q2.trans (g3.mono q2.size)
  clear g3 h3 q2
  go_wp2
  go_ret
  exact ⟨rfl, q3⟩

theorem chks_ok {c m p q : Int} (h : okv (c, m) = true) (g : okv (p, q) = true) : chks [(c, m), (p, q)] = 0 := by unfold chks; rw [if_pos (by simp [h, g])]
theorem chks_bad {c m p q : Int} (h : ¬ (okv (c, m) = true ∧ okv (p, q) = true)) : chks [(c, m), (p, q)] = 1 := by
  unfold chks; rw [if_neg]; intro k; exact h (by simpa using k)

theorem walk (c m x p q : Int) (w : World) (hc : I64 c) (hm : I64 m) (hx : I64 x) (hp : I64 p) (hq : I64 q) :
    Calls Try.prog 6 #[.agg #[.int .i64 c, .int .i64 m], .int .i64 x, .agg #[.int .i64 p, .int .i64 q]] w fun e w' => e = .returned (.bool true) ∧ Below w.heap.size w w' := by
  by_cases h : okv (c, m) = true ∧ okv (p, q) = true
  · have H := hid (chks_ok h.1 h.2)
    by_cases h1 : x < 1
    · exact case1 c m x p q w H (decide_eq_true h1)
    by_cases h2 : 524288 < x
    · exact case2 c m x p q w H (decide_eq_false h1) (decide_eq_true h2)
    by_cases h3 : 549755813888 < c
    · exact case3 c m x p q w H (decide_eq_false h1) (decide_eq_false h2) (decide_eq_true h3)
    by_cases h4 : 549755813888 < m
    · exact case4 c m x p q w H (decide_eq_false h1) (decide_eq_false h2) (decide_eq_false h3) (decide_eq_true h4)
    obtain ⟨a1, a2⟩ := okv_true h.1
    obtain ⟨a3, a4⟩ := okv_true h.2
    have z := lev_zero a1 a2 a3 a4 (x := x) (by omega)
    have o : okv (2 * c, 2 * m) = true := by
      simp only [okp] at a1 a2
      exact decide_eq_true ⟨by unfold okp; simp only; omega, by unfold okp; simp only; omega⟩
    have L := fun w => less_yes c m x (2 * c) (2 * m) (2 * x) p q (by
      unfold leok
      have w1 : okw x = true := by simp only [okw, decide_eq_true_eq]; omega
      have w2 : okw (2 * x) = true := by simp only [okw, decide_eq_true_eq]; omega
      simp [h.1, h.2, o, w1, w2]) w
    rw [z] at L
    simp only [okp] at a1 a2
    exact case5 c m x p q w H (decide_eq_false h1) (decide_eq_false h2) (decide_eq_false h3) (decide_eq_false h4) (by rw [IntKind.wrap_i64]; omega) (by rw [IntKind.wrap_i64]; omega) (by rw [IntKind.wrap_i64]; omega) (hid L)
  · exact case0 c m x p q w (hid (chks_bad h))

theorem own : ownKnob Try.prog.godebug = none := by kernel_rfl
theorem laidOut : laidOutB Try.prog = true := by kernel_rfl

set_option maxRecDepth 100000 in
theorem lifted (os : Os) (started : os.Started) (H : Type) (enc : TypeId × Value → H) :
    ReturnsInHanded {} Try.checked os 6 .any (Rows.vecAlikeSpec.pre6 enc Try.prog Try.f6 Rows.vecAlikeRow.domain false) (Rows.vecAlikeSpec.post enc Try.prog Try.f6 false true false false) := by
  refine returnsInHanded_of_change (C := Try.checked) own started (by kernel_rfl) Try.func6
    (ChangeSpec.witness6 (enc := enc) (C := Try.checked) false ⟨#[], #[.agg #[.int .i64 0, .int .i64 0], .int .i64 0, .agg #[.int .i64 0, .int .i64 0]], []⟩ 8 (by kernel_rfl) (by kernel_rfl) (by kernel_rfl) (by kernel_rfl)) ?_
  intro W base args ds gs before hval0 hW hcnd _
  have hval : ∀ (j : Nat) t v, Try.f6.params[j]? = some t → args[j]? = some v → Value.okWide Try.prog W .any base t v := hval0
  have hW' := hW
  obtain ⟨p, q, hA0, hV, rfl, hfz, hnd⟩ := hW
  have hA : DataW.TrodAll enc Try.prog W 0 (fun _ => true) true Try.f6.params.toList args.toList ds p := hA0
  rw [Try.params6] at hA hval
  obtain ⟨v0, vs0, d0, ds0, p0, q0, hargs, rfl, rfl, h0, r0⟩ := trodAll_cons hA
  obtain ⟨v1, vs1, d1, ds1, p1, q1, rfl, rfl, rfl, h1, r1⟩ := trodAll_cons r0
  obtain ⟨v2, vs2, d2, ds2, p2, q2, rfl, rfl, rfl, h2, r2⟩ := trodAll_cons r1
  obtain ⟨rfl, rfl, rfl⟩ := trodAll_nil r2
  obtain rfl : args = #[v0, v1, v2] := by cases args; simp_all
  obtain ⟨rfl, rfl⟩ := trodVars_none hV
  have lt0 : ∀ x ∈ p0, x.block < W.heap.size := by obtain ⟨m, hm⟩ := h0; exact DataW.trod_lt m _ _ _ hm
  have lt1 : ∀ x ∈ p1, x.block < W.heap.size := by obtain ⟨m, hm⟩ := h1; exact DataW.trod_lt m _ _ _ hm
  have lt2 : ∀ x ∈ p2, x.block < W.heap.size := by obtain ⟨m, hm⟩ := h2; exact DataW.trod_lt m _ _ _ hm
  obtain ⟨a0_0, a0_1, rfl, w0_0, w0_1⟩ := val_vec2 Try.underlying23 Try.underlying2 Try.underlying2 (by kernel_rfl) (by kernel_rfl) (hval 0 23 v0 rfl rfl) h0
  obtain ⟨a1, rfl, w1⟩ := val_i64 Try.underlying2 (hval 1 2 v1 rfl rfl) h1
  obtain ⟨a2_0, a2_1, rfl, w2_0, w2_1⟩ := val_vec2 Try.underlying23 Try.underlying2 Try.underlying2 (by kernel_rfl) (by kernel_rfl) (hval 2 23 v2 rfl rfl) h2
  clear hA0 hval0
  refine (walk a0_0 a0_1 a1 a2_0 a2_1 W w0_0 w0_1 w1 w2_0 w2_1).mono fun e W' ⟨he, bel⟩ => ?_
  subst he
  exact ⟨_, rfl, _, _, _, [], _, [], hW', trodAll_mk1 (shut_bool Try.underlying4 _), (trodAll_cons_mk (Below.trod laidOut (by kernel_rfl) (of_decide_eq_true (by kernel_rfl)) h0 bel lt0) (trodAll_cons_mk (Below.trod laidOut (by kernel_rfl) (of_decide_eq_true (by kernel_rfl)) h1 bel lt1) (trodAll_cons_mk (Below.trod laidOut (by kernel_rfl) (of_decide_eq_true (by kernel_rfl)) h2 bel lt2) trodAll_mk0))), rfl, bel.frame _, fun h => by cases h⟩

theorem over : Rows.vecAlikeRow.holds Try.pinned (OpenSpec.ofChange Rows.vecAlikeSpec) :=
  OpenClaim.holds_of_wide 6 Try.f6 rfl rfl rfl rfl rfl rfl rfl ⟨rfl, rfl, rfl, rfl, rfl⟩ rfl rfl rfl rfl rfl (by kernel_rfl) Try.func6 (by kernel_rfl)
    (of_decide_eq_true (by kernel_rfl)) (by unfold Func.isWrapper; first | (rw [if_pos (by decide +kernel)]; kernel_rfl) | (rw [if_neg (by decide +kernel)]; exact ⟨rfl, rfl⟩))
    (fun os started H enc _ => lifted os started H enc)

theorem proved : Rows.VecAlikeSaid := over
#print axioms proved
end Go.Proofs.Ytmajoognpggcpab.vecAlike
