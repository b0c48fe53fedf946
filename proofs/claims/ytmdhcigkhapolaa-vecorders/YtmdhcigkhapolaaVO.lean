/-
  Contracts of furlongref02: Less by lev, DocLess.
-/
import Derived.Test.YtmdhcigkhapolaaVN
namespace Go.Proofs.Ytmdhcigkhapolaa
open Go.RowKit Go.Shelf
set_option linter.unusedVariables false
set_option linter.unusedSimpArgs false

theorem dom_num {c m p q : Int} (oc : okp c) (om : okp m) (op : okp p) (oq : okp q) : (dom c m p q).1 ≤ 1099511627776 := by
  have z : ∀ a b : Int, okp a → okp b → (shr a b).1 ≤ 1099511627776 := fun a b ha hb => by
    unfold okp at ha hb
    unfold shr; split
    · exact ha.2
    · split <;> decide
  unfold dom; split
  · exact z _ _ om oq
  · exact z _ _ oc op
theorem prod_bd {a b : Int} (a0 : 0 ≤ a) (a1 : a ≤ 1099511627776) (b0 : 0 ≤ b) (b1 : b ≤ 1099511627776) : 0 ≤ a * b ∧ a * b ≤ 1208925819614629174706176 := by
  refine ⟨Int.mul_nonneg a0 b0, ?_⟩
  have := Int.mul_le_mul a1 b1 b0 (by omega)
  exact Int.le_trans this (by decide)

theorem rless_any (c m x d k y p q : Int) (h : leok c m x d k y p q = true) (w : World) :
    Calls Try.prog 47 #[.agg #[.int .i64 c, .int .i64 m], .int .i64 x, .agg #[.int .i64 d, .int .i64 k], .int .i64 y, .agg #[.int .i64 p, .int .i64 q]] w fun e w' => e = .returned (.int .i64 (lev c m x d k y p q)) ∧ Below w.heap.size w w' := by
  obtain ⟨hok, hw⟩ : [(c, m), (d, k), (p, q)].all okv = true ∧ (okw x && okw y) = true := by unfold leok at h; simpa using h
  obtain ⟨o1, o2, o3⟩ : okv (c, m) = true ∧ okv (d, k) = true ∧ okv (p, q) = true := by simpa using hok
  obtain ⟨a1, a2⟩ := okv_true o1
  obtain ⟨a3, a4⟩ := okv_true o2
  obtain ⟨a5, a6⟩ := okv_true o3
  have hx : 1 ≤ x ∧ x ≤ 1048576 := by have : okw x = true := by simp at hw; exact hw.1
                                      simpa [okw] using this
  have hy : 1 ≤ y ∧ y ≤ 1048576 := by have : okw y = true := by simp at hw; exact hw.2
                                      simpa [okw] using this
  have f1 := dom_fr ⟨a1, a5⟩ ⟨a2, a6⟩
  have f2 := dom_fr ⟨a3, a5⟩ ⟨a4, a6⟩
  have u1 := dom_num a1 a2 a5 a6
  have u2 := dom_num a3 a4 a5 a6
  have SA := hid (fun w => rshare_any c m p q a1 a2 a5 a6 w)
  have SB := hid (fun w => rshare_any d k p q a3 a4 a5 a6 w)
  have E : lev c m x d k y p q = if (dom c m p q).2 = 0 ∨ (dom d k p q).2 = 0 then ord (dom d k p q).2 (dom c m p q).2 else ord ((dom c m p q).1 * (dom d k p q).2 * y) ((dom d k p q).1 * (dom c m p q).2 * x) := by
    have n1 := f1.1.2.1
    have n2 := f2.1.2.1
    unfold lev fc
    simp only
    generalize dom c m p q = F at *
    generalize dom d k p q = G at *
    obtain ⟨F0, F1⟩ := F; obtain ⟨G0, G1⟩ := G
    simp only at *
    by_cases hF : F1 = 0
    · subst hF
      rw [if_pos (Or.inl (Int.zero_mul x)), if_pos (Or.inl rfl), Int.zero_mul]
      by_cases hG : G1 = 0
      · subst hG; rw [Int.zero_mul]
      · have : 0 < G1 * y := Int.mul_pos (by omega) (by omega)
        unfold ord; rw [if_neg (by omega), if_pos (by omega), if_neg (by omega), if_pos (by omega)]
    · have pF : 0 < F1 * x := Int.mul_pos (by omega) (by omega)
      by_cases hG : G1 = 0
      · subst hG
        rw [if_pos (Or.inr (Int.zero_mul y)), if_pos (Or.inr rfl), Int.zero_mul]
        unfold ord; rw [if_pos (by omega), if_pos (by omega)]
      · have pG : 0 < G1 * y := Int.mul_pos (by omega) (by omega)
        rw [if_neg (by omega), if_neg (by omega), Int.mul_assoc, Int.mul_assoc]
  rw [E]
  have b1 := prod_bd f1.2.1 u1 f2.1.2.1 f2.2.2
  have b2 := prod_bd f2.2.1 u2 f1.1.2.1 f1.2.2
  have i1 : I64 (dom c m p q).2 := ⟨Int.le_trans (by decide) f1.1.2.1, f1.1.2.2⟩
  have i2 : I64 (dom d k p q).2 := ⟨Int.le_trans (by decide) f2.1.2.1, f2.1.2.2⟩
  exact rless_core c m x d k y p q _ _ _ _ _ _ w SA SB
    (hid (fun w => wtimes_any _ _ y _ f1.1.1 i2 rfl b1.1 b1.2 (by omega) (by omega) w))
    (hid (fun w => wtimes_any _ _ x _ f2.1.1 i1 rfl b2.1 b2.2 (by omega) (by omega) w)) f1.1.2.1 f2.1.2.1

theorem chks3_ok {a b c : Int × Int} (h : [a, b, c].all okv = true) : chks [a, b, c] = 0 := by unfold chks; rw [if_pos h]
theorem chks3_no {a b c : Int × Int} (h : [a, b, c].all okv = false) : chks [a, b, c] = 1 := by unfold chks; rw [h]; rfl

set_option maxHeartbeats 4000000 in
theorem docless_ok (c m x d k y p q L : Int) (w : World) (HK : Hid (chks [(c, m), (d, k), (p, q)] = 0)) (t1 : decide (x < 1) = false) (t2 : decide (1048576 < x) = false) (t3 : decide (y < 1) = false) (t4 : decide (1048576 < y) = false) (CL : Hid (∀ w : World, Calls Try.prog 47 #[.agg #[.int .i64 c, .int .i64 m], .int .i64 x, .agg #[.int .i64 d, .int .i64 k], .int .i64 y, .agg #[.int .i64 p, .int .i64 q]] w fun e w' => e = .returned (.int .i64 L) ∧ Below w.heap.size w w')) :
    Calls Try.prog 18 #[.agg #[.int .i64 c, .int .i64 m], .int .i64 x, .agg #[.int .i64 d, .int .i64 k], .int .i64 y, .agg #[.int .i64 p, .int .i64 q]] w fun e w' => e = .returned (.tuple #[.int .i64 L, .int .i64 0]) ∧ Below w.heap.size w w' := by
  go_enter Try.func18, Try.ntmps18
  go_wp2_with fail
  refine (rcheck_any _ 3 3 [(c, m), (d, k), (p, q)] _ (row2_three (by simp [go_sem]) (by simp [go_sem]) (by simp [go_sem]) (by simp [go_sem]) (by simp [go_sem]) (by simp [go_sem]))).mono ?_
  rintro e w1 ⟨rfl, h1⟩
  have g1 : Below w.heap.size w w1 := Below.trans (by repeat (first | exact Below.refl _ _ | assumption | refine Below.alloc ?_ (by simp <;> omega) _ | refine Below.setCell ?_ (by simp <;> omega) _ | refine Below.drew ?_ | refine below_drewN ?_ _)) (h1.mono (by simp <;> omega))
  have x1_0 := keepc h1 (a := ⟨w.heap.size, 0, none⟩) (v := .int .i64 (c)) (by simp [go_sem])
  have x1_1 := keepc h1 (a := ⟨w.heap.size, 1, none⟩) (v := .int .i64 (m)) (by simp [go_sem])
  have x1_2 := keepc h1 (a := ⟨w.heap.size + 1, 0, none⟩) (v := .int .i64 (d)) (by simp [go_sem])
  have x1_3 := keepc h1 (a := ⟨w.heap.size + 1, 1, none⟩) (v := .int .i64 (k)) (by simp [go_sem])
  have x1_4 := keepc h1 (a := ⟨w.heap.size + 1 + 1, 0, none⟩) (v := .int .i64 (p)) (by simp [go_sem])
  have x1_5 := keepc h1 (a := ⟨w.heap.size + 1 + 1, 1, none⟩) (v := .int .i64 (q)) (by simp [go_sem])
  have q1 := g1
  clear g1 h1
  rw [HK.out]
  go_wp2_with fail
  refine (CL.out _).mono ?_
  rintro e w2 ⟨rfl, h2⟩
  have g2 : Below w1.heap.size w1 w2 := Below.trans (by repeat (first | exact Below.refl _ _ | assumption | refine Below.alloc ?_ (by simp <;> omega) _ | refine Below.setCell ?_ (by simp <;> omega) _ | refine Below.drew ?_ | refine below_drewN ?_ _)) (h2.mono (by simp <;> omega))
  have x2_0 := keepc g2 x1_0
  have x2_1 := keepc g2 x1_1
  have x2_2 := keepc g2 x1_2
  have x2_3 := keepc g2 x1_3
  have x2_4 := keepc g2 x1_4
  have x2_5 := keepc g2 x1_5
  clear x1_0 x1_1 x1_2 x1_3 x1_4 x1_5
  have q2 := q1.trans (g2.mono q1.size)
  clear g2 h2 q1
  go_wp2
  go_ret2
  exact ⟨rfl, q2⟩

set_option maxHeartbeats 4000000 in
theorem docless_chk (c m x d k y p q L : Int) (w : World) (HK : Hid (chks [(c, m), (d, k), (p, q)] = 1)) (t1 : decide (x < 1) = false) (t2 : decide (1048576 < x) = false) (t3 : decide (y < 1) = false) (t4 : decide (1048576 < y) = false) :
    Calls Try.prog 18 #[.agg #[.int .i64 c, .int .i64 m], .int .i64 x, .agg #[.int .i64 d, .int .i64 k], .int .i64 y, .agg #[.int .i64 p, .int .i64 q]] w fun e w' => e = .returned (.tuple #[.int .i64 0, .int .i64 1]) ∧ Below w.heap.size w w' := by
  go_enter Try.func18, Try.ntmps18
  go_wp2_with fail
  refine (rcheck_any _ 3 3 [(c, m), (d, k), (p, q)] _ (row2_three (by simp [go_sem]) (by simp [go_sem]) (by simp [go_sem]) (by simp [go_sem]) (by simp [go_sem]) (by simp [go_sem]))).mono ?_
  rintro e w1 ⟨rfl, h1⟩
  have g1 : Below w.heap.size w w1 := Below.trans (by repeat (first | exact Below.refl _ _ | assumption | refine Below.alloc ?_ (by simp <;> omega) _ | refine Below.setCell ?_ (by simp <;> omega) _ | refine Below.drew ?_ | refine below_drewN ?_ _)) (h1.mono (by simp <;> omega))
  have x1_0 := keepc h1 (a := ⟨w.heap.size, 0, none⟩) (v := .int .i64 (c)) (by simp [go_sem])
  have x1_1 := keepc h1 (a := ⟨w.heap.size, 1, none⟩) (v := .int .i64 (m)) (by simp [go_sem])
  have x1_2 := keepc h1 (a := ⟨w.heap.size + 1, 0, none⟩) (v := .int .i64 (d)) (by simp [go_sem])
  have x1_3 := keepc h1 (a := ⟨w.heap.size + 1, 1, none⟩) (v := .int .i64 (k)) (by simp [go_sem])
  have x1_4 := keepc h1 (a := ⟨w.heap.size + 1 + 1, 0, none⟩) (v := .int .i64 (p)) (by simp [go_sem])
  have x1_5 := keepc h1 (a := ⟨w.heap.size + 1 + 1, 1, none⟩) (v := .int .i64 (q)) (by simp [go_sem])
  have q1 := g1
  clear g1 h1
  rw [HK.out]
  go_wp2
  go_ret2
  exact ⟨rfl, q1⟩

set_option maxHeartbeats 4000000 in
theorem docless_w1a (c m x d k y p q L : Int) (w : World) (HK : Hid (chks [(c, m), (d, k), (p, q)] = 0)) (t1 : decide (x < 1) = true) :
    Calls Try.prog 18 #[.agg #[.int .i64 c, .int .i64 m], .int .i64 x, .agg #[.int .i64 d, .int .i64 k], .int .i64 y, .agg #[.int .i64 p, .int .i64 q]] w fun e w' => e = .returned (.tuple #[.int .i64 0, .int .i64 1]) ∧ Below w.heap.size w w' := by
  go_enter Try.func18, Try.ntmps18
  go_wp2_with fail
  refine (rcheck_any _ 3 3 [(c, m), (d, k), (p, q)] _ (row2_three (by simp [go_sem]) (by simp [go_sem]) (by simp [go_sem]) (by simp [go_sem]) (by simp [go_sem]) (by simp [go_sem]))).mono ?_
  rintro e w1 ⟨rfl, h1⟩
  have g1 : Below w.heap.size w w1 := Below.trans (by repeat (first | exact Below.refl _ _ | assumption | refine Below.alloc ?_ (by simp <;> omega) _ | refine Below.setCell ?_ (by simp <;> omega) _ | refine Below.drew ?_ | refine below_drewN ?_ _)) (h1.mono (by simp <;> omega))
  have x1_0 := keepc h1 (a := ⟨w.heap.size, 0, none⟩) (v := .int .i64 (c)) (by simp [go_sem])
  have x1_1 := keepc h1 (a := ⟨w.heap.size, 1, none⟩) (v := .int .i64 (m)) (by simp [go_sem])
  have x1_2 := keepc h1 (a := ⟨w.heap.size + 1, 0, none⟩) (v := .int .i64 (d)) (by simp [go_sem])
  have x1_3 := keepc h1 (a := ⟨w.heap.size + 1, 1, none⟩) (v := .int .i64 (k)) (by simp [go_sem])
  have x1_4 := keepc h1 (a := ⟨w.heap.size + 1 + 1, 0, none⟩) (v := .int .i64 (p)) (by simp [go_sem])
  have x1_5 := keepc h1 (a := ⟨w.heap.size + 1 + 1, 1, none⟩) (v := .int .i64 (q)) (by simp [go_sem])
  have q1 := g1
  clear g1 h1
  rw [HK.out]
  go_wp2
  go_ret2
  exact ⟨rfl, q1⟩

set_option maxHeartbeats 4000000 in
theorem docless_w1b (c m x d k y p q L : Int) (w : World) (HK : Hid (chks [(c, m), (d, k), (p, q)] = 1)) (t1 : decide (x < 1) = true) :
    Calls Try.prog 18 #[.agg #[.int .i64 c, .int .i64 m], .int .i64 x, .agg #[.int .i64 d, .int .i64 k], .int .i64 y, .agg #[.int .i64 p, .int .i64 q]] w fun e w' => e = .returned (.tuple #[.int .i64 0, .int .i64 1]) ∧ Below w.heap.size w w' := by
  go_enter Try.func18, Try.ntmps18
  go_wp2_with fail
  refine (rcheck_any _ 3 3 [(c, m), (d, k), (p, q)] _ (row2_three (by simp [go_sem]) (by simp [go_sem]) (by simp [go_sem]) (by simp [go_sem]) (by simp [go_sem]) (by simp [go_sem]))).mono ?_
  rintro e w1 ⟨rfl, h1⟩
  have g1 : Below w.heap.size w w1 := Below.trans (by repeat (first | exact Below.refl _ _ | assumption | refine Below.alloc ?_ (by simp <;> omega) _ | refine Below.setCell ?_ (by simp <;> omega) _ | refine Below.drew ?_ | refine below_drewN ?_ _)) (h1.mono (by simp <;> omega))
  have x1_0 := keepc h1 (a := ⟨w.heap.size, 0, none⟩) (v := .int .i64 (c)) (by simp [go_sem])
  have x1_1 := keepc h1 (a := ⟨w.heap.size, 1, none⟩) (v := .int .i64 (m)) (by simp [go_sem])
  have x1_2 := keepc h1 (a := ⟨w.heap.size + 1, 0, none⟩) (v := .int .i64 (d)) (by simp [go_sem])
  have x1_3 := keepc h1 (a := ⟨w.heap.size + 1, 1, none⟩) (v := .int .i64 (k)) (by simp [go_sem])
  have x1_4 := keepc h1 (a := ⟨w.heap.size + 1 + 1, 0, none⟩) (v := .int .i64 (p)) (by simp [go_sem])
  have x1_5 := keepc h1 (a := ⟨w.heap.size + 1 + 1, 1, none⟩) (v := .int .i64 (q)) (by simp [go_sem])
  have q1 := g1
  clear g1 h1
  rw [HK.out]
  go_wp2
  go_ret2
  exact ⟨rfl, q1⟩

set_option maxHeartbeats 4000000 in
theorem docless_w2a (c m x d k y p q L : Int) (w : World) (HK : Hid (chks [(c, m), (d, k), (p, q)] = 0)) (t1 : decide (x < 1) = false) (t2 : decide (1048576 < x) = true) :
    Calls Try.prog 18 #[.agg #[.int .i64 c, .int .i64 m], .int .i64 x, .agg #[.int .i64 d, .int .i64 k], .int .i64 y, .agg #[.int .i64 p, .int .i64 q]] w fun e w' => e = .returned (.tuple #[.int .i64 0, .int .i64 1]) ∧ Below w.heap.size w w' := by
  go_enter Try.func18, Try.ntmps18
  go_wp2_with fail
  refine (rcheck_any _ 3 3 [(c, m), (d, k), (p, q)] _ (row2_three (by simp [go_sem]) (by simp [go_sem]) (by simp [go_sem]) (by simp [go_sem]) (by simp [go_sem]) (by simp [go_sem]))).mono ?_
  rintro e w1 ⟨rfl, h1⟩
  have g1 : Below w.heap.size w w1 := Below.trans (by repeat (first | exact Below.refl _ _ | assumption | refine Below.alloc ?_ (by simp <;> omega) _ | refine Below.setCell ?_ (by simp <;> omega) _ | refine Below.drew ?_ | refine below_drewN ?_ _)) (h1.mono (by simp <;> omega))
  have x1_0 := keepc h1 (a := ⟨w.heap.size, 0, none⟩) (v := .int .i64 (c)) (by simp [go_sem])
  have x1_1 := keepc h1 (a := ⟨w.heap.size, 1, none⟩) (v := .int .i64 (m)) (by simp [go_sem])
  have x1_2 := keepc h1 (a := ⟨w.heap.size + 1, 0, none⟩) (v := .int .i64 (d)) (by simp [go_sem])
  have x1_3 := keepc h1 (a := ⟨w.heap.size + 1, 1, none⟩) (v := .int .i64 (k)) (by simp [go_sem])
  have x1_4 := keepc h1 (a := ⟨w.heap.size + 1 + 1, 0, none⟩) (v := .int .i64 (p)) (by simp [go_sem])
  have x1_5 := keepc h1 (a := ⟨w.heap.size + 1 + 1, 1, none⟩) (v := .int .i64 (q)) (by simp [go_sem])
  have q1 := g1
  clear g1 h1
  rw [HK.out]
  go_wp2
  go_ret2
  exact ⟨rfl, q1⟩

set_option maxHeartbeats 4000000 in
theorem docless_w2b (c m x d k y p q L : Int) (w : World) (HK : Hid (chks [(c, m), (d, k), (p, q)] = 1)) (t1 : decide (x < 1) = false) (t2 : decide (1048576 < x) = true) :
    Calls Try.prog 18 #[.agg #[.int .i64 c, .int .i64 m], .int .i64 x, .agg #[.int .i64 d, .int .i64 k], .int .i64 y, .agg #[.int .i64 p, .int .i64 q]] w fun e w' => e = .returned (.tuple #[.int .i64 0, .int .i64 1]) ∧ Below w.heap.size w w' := by
  go_enter Try.func18, Try.ntmps18
  go_wp2_with fail
  refine (rcheck_any _ 3 3 [(c, m), (d, k), (p, q)] _ (row2_three (by simp [go_sem]) (by simp [go_sem]) (by simp [go_sem]) (by simp [go_sem]) (by simp [go_sem]) (by simp [go_sem]))).mono ?_
  rintro e w1 ⟨rfl, h1⟩
  have g1 : Below w.heap.size w w1 := Below.trans (by repeat (first | exact Below.refl _ _ | assumption | refine Below.alloc ?_ (by simp <;> omega) _ | refine Below.setCell ?_ (by simp <;> omega) _ | refine Below.drew ?_ | refine below_drewN ?_ _)) (h1.mono (by simp <;> omega))
  have x1_0 := keepc h1 (a := ⟨w.heap.size, 0, none⟩) (v := .int .i64 (c)) (by simp [go_sem])
  have x1_1 := keepc h1 (a := ⟨w.heap.size, 1, none⟩) (v := .int .i64 (m)) (by simp [go_sem])
  have x1_2 := keepc h1 (a := ⟨w.heap.size + 1, 0, none⟩) (v := .int .i64 (d)) (by simp [go_sem])
  have x1_3 := keepc h1 (a := ⟨w.heap.size + 1, 1, none⟩) (v := .int .i64 (k)) (by simp [go_sem])
  have x1_4 := keepc h1 (a := ⟨w.heap.size + 1 + 1, 0, none⟩) (v := .int .i64 (p)) (by simp [go_sem])
  have x1_5 := keepc h1 (a := ⟨w.heap.size + 1 + 1, 1, none⟩) (v := .int .i64 (q)) (by simp [go_sem])
  have q1 := g1
  clear g1 h1
  rw [HK.out]
  go_wp2
  go_ret2
  exact ⟨rfl, q1⟩

set_option maxHeartbeats 4000000 in
theorem docless_w3a (c m x d k y p q L : Int) (w : World) (HK : Hid (chks [(c, m), (d, k), (p, q)] = 0)) (t1 : decide (x < 1) = false) (t2 : decide (1048576 < x) = false) (t3 : decide (y < 1) = true) :
    Calls Try.prog 18 #[.agg #[.int .i64 c, .int .i64 m], .int .i64 x, .agg #[.int .i64 d, .int .i64 k], .int .i64 y, .agg #[.int .i64 p, .int .i64 q]] w fun e w' => e = .returned (.tuple #[.int .i64 0, .int .i64 1]) ∧ Below w.heap.size w w' := by
  go_enter Try.func18, Try.ntmps18
  go_wp2_with fail
  refine (rcheck_any _ 3 3 [(c, m), (d, k), (p, q)] _ (row2_three (by simp [go_sem]) (by simp [go_sem]) (by simp [go_sem]) (by simp [go_sem]) (by simp [go_sem]) (by simp [go_sem]))).mono ?_
  rintro e w1 ⟨rfl, h1⟩
  have g1 : Below w.heap.size w w1 := Below.trans (by repeat (first | exact Below.refl _ _ | assumption | refine Below.alloc ?_ (by simp <;> omega) _ | refine Below.setCell ?_ (by simp <;> omega) _ | refine Below.drew ?_ | refine below_drewN ?_ _)) (h1.mono (by simp <;> omega))
  have x1_0 := keepc h1 (a := ⟨w.heap.size, 0, none⟩) (v := .int .i64 (c)) (by simp [go_sem])
  have x1_1 := keepc h1 (a := ⟨w.heap.size, 1, none⟩) (v := .int .i64 (m)) (by simp [go_sem])
  have x1_2 := keepc h1 (a := ⟨w.heap.size + 1, 0, none⟩) (v := .int .i64 (d)) (by simp [go_sem])
  have x1_3 := keepc h1 (a := ⟨w.heap.size + 1, 1, none⟩) (v := .int .i64 (k)) (by simp [go_sem])
  have x1_4 := keepc h1 (a := ⟨w.heap.size + 1 + 1, 0, none⟩) (v := .int .i64 (p)) (by simp [go_sem])
  have x1_5 := keepc h1 (a := ⟨w.heap.size + 1 + 1, 1, none⟩) (v := .int .i64 (q)) (by simp [go_sem])
  have q1 := g1
  clear g1 h1
  rw [HK.out]
  go_wp2
  go_ret2
  exact ⟨rfl, q1⟩

set_option maxHeartbeats 4000000 in
theorem docless_w3b (c m x d k y p q L : Int) (w : World) (HK : Hid (chks [(c, m), (d, k), (p, q)] = 1)) (t1 : decide (x < 1) = false) (t2 : decide (1048576 < x) = false) (t3 : decide (y < 1) = true) :
    Calls Try.prog 18 #[.agg #[.int .i64 c, .int .i64 m], .int .i64 x, .agg #[.int .i64 d, .int .i64 k], .int .i64 y, .agg #[.int .i64 p, .int .i64 q]] w fun e w' => e = .returned (.tuple #[.int .i64 0, .int .i64 1]) ∧ Below w.heap.size w w' := by
  go_enter Try.func18, Try.ntmps18
  go_wp2_with fail
  refine (rcheck_any _ 3 3 [(c, m), (d, k), (p, q)] _ (row2_three (by simp [go_sem]) (by simp [go_sem]) (by simp [go_sem]) (by simp [go_sem]) (by simp [go_sem]) (by simp [go_sem]))).mono ?_
  rintro e w1 ⟨rfl, h1⟩
  have g1 : Below w.heap.size w w1 := Below.trans (by repeat (first | exact Below.refl _ _ | assumption | refine Below.alloc ?_ (by simp <;> omega) _ | refine Below.setCell ?_ (by simp <;> omega) _ | refine Below.drew ?_ | refine below_drewN ?_ _)) (h1.mono (by simp <;> omega))
  have x1_0 := keepc h1 (a := ⟨w.heap.size, 0, none⟩) (v := .int .i64 (c)) (by simp [go_sem])
  have x1_1 := keepc h1 (a := ⟨w.heap.size, 1, none⟩) (v := .int .i64 (m)) (by simp [go_sem])
  have x1_2 := keepc h1 (a := ⟨w.heap.size + 1, 0, none⟩) (v := .int .i64 (d)) (by simp [go_sem])
  have x1_3 := keepc h1 (a := ⟨w.heap.size + 1, 1, none⟩) (v := .int .i64 (k)) (by simp [go_sem])
  have x1_4 := keepc h1 (a := ⟨w.heap.size + 1 + 1, 0, none⟩) (v := .int .i64 (p)) (by simp [go_sem])
  have x1_5 := keepc h1 (a := ⟨w.heap.size + 1 + 1, 1, none⟩) (v := .int .i64 (q)) (by simp [go_sem])
  have q1 := g1
  clear g1 h1
  rw [HK.out]
  go_wp2
  go_ret2
  exact ⟨rfl, q1⟩

set_option maxHeartbeats 4000000 in
theorem docless_w4a (c m x d k y p q L : Int) (w : World) (HK : Hid (chks [(c, m), (d, k), (p, q)] = 0)) (t1 : decide (x < 1) = false) (t2 : decide (1048576 < x) = false) (t3 : decide (y < 1) = false) (t4 : decide (1048576 < y) = true) :
    Calls Try.prog 18 #[.agg #[.int .i64 c, .int .i64 m], .int .i64 x, .agg #[.int .i64 d, .int .i64 k], .int .i64 y, .agg #[.int .i64 p, .int .i64 q]] w fun e w' => e = .returned (.tuple #[.int .i64 0, .int .i64 1]) ∧ Below w.heap.size w w' := by
  go_enter Try.func18, Try.ntmps18
  go_wp2_with fail
  refine (rcheck_any _ 3 3 [(c, m), (d, k), (p, q)] _ (row2_three (by simp [go_sem]) (by simp [go_sem]) (by simp [go_sem]) (by simp [go_sem]) (by simp [go_sem]) (by simp [go_sem]))).mono ?_
  rintro e w1 ⟨rfl, h1⟩
  have g1 : Below w.heap.size w w1 := Below.trans (by repeat (first | exact Below.refl _ _ | assumption | refine Below.alloc ?_ (by simp <;> omega) _ | refine Below.setCell ?_ (by simp <;> omega) _ | refine Below.drew ?_ | refine below_drewN ?_ _)) (h1.mono (by simp <;> omega))
  have x1_0 := keepc h1 (a := ⟨w.heap.size, 0, none⟩) (v := .int .i64 (c)) (by simp [go_sem])
  have x1_1 := keepc h1 (a := ⟨w.heap.size, 1, none⟩) (v := .int .i64 (m)) (by simp [go_sem])
  have x1_2 := keepc h1 (a := ⟨w.heap.size + 1, 0, none⟩) (v := .int .i64 (d)) (by simp [go_sem])
  have x1_3 := keepc h1 (a := ⟨w.heap.size + 1, 1, none⟩) (v := .int .i64 (k)) (by simp [go_sem])
  have x1_4 := keepc h1 (a := ⟨w.heap.size + 1 + 1, 0, none⟩) (v := .int .i64 (p)) (by simp [go_sem])
  have x1_5 := keepc h1 (a := ⟨w.heap.size + 1 + 1, 1, none⟩) (v := .int .i64 (q)) (by simp [go_sem])
  have q1 := g1
  clear g1 h1
  rw [HK.out]
  go_wp2
  go_ret2
  exact ⟨rfl, q1⟩

set_option maxHeartbeats 4000000 in
theorem docless_w4b (c m x d k y p q L : Int) (w : World) (HK : Hid (chks [(c, m), (d, k), (p, q)] = 1)) (t1 : decide (x < 1) = false) (t2 : decide (1048576 < x) = false) (t3 : decide (y < 1) = false) (t4 : decide (1048576 < y) = true) :
    Calls Try.prog 18 #[.agg #[.int .i64 c, .int .i64 m], .int .i64 x, .agg #[.int .i64 d, .int .i64 k], .int .i64 y, .agg #[.int .i64 p, .int .i64 q]] w fun e w' => e = .returned (.tuple #[.int .i64 0, .int .i64 1]) ∧ Below w.heap.size w w' := by
  go_enter Try.func18, Try.ntmps18
  go_wp2_with fail
  refine (rcheck_any _ 3 3 [(c, m), (d, k), (p, q)] _ (row2_three (by simp [go_sem]) (by simp [go_sem]) (by simp [go_sem]) (by simp [go_sem]) (by simp [go_sem]) (by simp [go_sem]))).mono ?_
  rintro e w1 ⟨rfl, h1⟩
  have g1 : Below w.heap.size w w1 := Below.trans (by repeat (first | exact Below.refl _ _ | assumption | refine Below.alloc ?_ (by simp <;> omega) _ | refine Below.setCell ?_ (by simp <;> omega) _ | refine Below.drew ?_ | refine below_drewN ?_ _)) (h1.mono (by simp <;> omega))
  have x1_0 := keepc h1 (a := ⟨w.heap.size, 0, none⟩) (v := .int .i64 (c)) (by simp [go_sem])
  have x1_1 := keepc h1 (a := ⟨w.heap.size, 1, none⟩) (v := .int .i64 (m)) (by simp [go_sem])
  have x1_2 := keepc h1 (a := ⟨w.heap.size + 1, 0, none⟩) (v := .int .i64 (d)) (by simp [go_sem])
  have x1_3 := keepc h1 (a := ⟨w.heap.size + 1, 1, none⟩) (v := .int .i64 (k)) (by simp [go_sem])
  have x1_4 := keepc h1 (a := ⟨w.heap.size + 1 + 1, 0, none⟩) (v := .int .i64 (p)) (by simp [go_sem])
  have x1_5 := keepc h1 (a := ⟨w.heap.size + 1 + 1, 1, none⟩) (v := .int .i64 (q)) (by simp [go_sem])
  have q1 := g1
  clear g1 h1
  rw [HK.out]
  go_wp2
  go_ret2
  exact ⟨rfl, q1⟩

theorem docless_yes (c m x d k y p q : Int) (h : leok c m x d k y p q = true) (w : World) :
    Calls Try.prog 18 #[.agg #[.int .i64 c, .int .i64 m], .int .i64 x, .agg #[.int .i64 d, .int .i64 k], .int .i64 y, .agg #[.int .i64 p, .int .i64 q]] w fun e w' => e = .returned (.tuple #[.int .i64 (lev c m x d k y p q), .int .i64 0]) ∧ Below w.heap.size w w' := by
  obtain ⟨hok, hw⟩ : [(c, m), (d, k), (p, q)].all okv = true ∧ (okw x && okw y) = true := by unfold leok at h; simpa using h
  have hx : 1 ≤ x ∧ x ≤ 1048576 := by have : okw x = true := by simp at hw; exact hw.1
                                      simpa [okw] using this
  have hy : 1 ≤ y ∧ y ≤ 1048576 := by have : okw y = true := by simp at hw; exact hw.2
                                      simpa [okw] using this
  exact docless_ok c m x d k y p q _ w (hid (chks3_ok hok)) (decide_eq_false (by omega)) (decide_eq_false (by omega)) (decide_eq_false (by omega)) (decide_eq_false (by omega)) (hid (fun w => rless_any c m x d k y p q h w))
theorem docless_no (c m x d k y p q : Int) (h : leok c m x d k y p q = false) (w : World) :
    Calls Try.prog 18 #[.agg #[.int .i64 c, .int .i64 m], .int .i64 x, .agg #[.int .i64 d, .int .i64 k], .int .i64 y, .agg #[.int .i64 p, .int .i64 q]] w fun e w' => e = .returned (.tuple #[.int .i64 0, .int .i64 1]) ∧ Below w.heap.size w w' := by
  by_cases h1 : x < 1
  · cases hok : [(c, m), (d, k), (p, q)].all okv
    · exact docless_w1b c m x d k y p q 0 w (hid (chks3_no hok)) (decide_eq_true h1)
    · exact docless_w1a c m x d k y p q 0 w (hid (chks3_ok hok)) (decide_eq_true h1)
  by_cases h2 : 1048576 < x
  · cases hok : [(c, m), (d, k), (p, q)].all okv
    · exact docless_w2b c m x d k y p q 0 w (hid (chks3_no hok)) (decide_eq_false h1) (decide_eq_true h2)
    · exact docless_w2a c m x d k y p q 0 w (hid (chks3_ok hok)) (decide_eq_false h1) (decide_eq_true h2)
  by_cases h3 : y < 1
  · cases hok : [(c, m), (d, k), (p, q)].all okv
    · exact docless_w3b c m x d k y p q 0 w (hid (chks3_no hok)) (decide_eq_false h1) (decide_eq_false h2) (decide_eq_true h3)
    · exact docless_w3a c m x d k y p q 0 w (hid (chks3_ok hok)) (decide_eq_false h1) (decide_eq_false h2) (decide_eq_true h3)
  by_cases h4 : 1048576 < y
  · cases hok : [(c, m), (d, k), (p, q)].all okv
    · exact docless_w4b c m x d k y p q 0 w (hid (chks3_no hok)) (decide_eq_false h1) (decide_eq_false h2) (decide_eq_false h3) (decide_eq_true h4)
    · exact docless_w4a c m x d k y p q 0 w (hid (chks3_ok hok)) (decide_eq_false h1) (decide_eq_false h2) (decide_eq_false h3) (decide_eq_true h4)
  cases hok : [(c, m), (d, k), (p, q)].all okv
  · exact docless_chk c m x d k y p q 0 w (hid (chks3_no hok)) (decide_eq_false h1) (decide_eq_false h2) (decide_eq_false h3) (decide_eq_false h4)
  · exfalso
    have w1 : okw x = true := by simp only [okw, decide_eq_true_eq]; omega
    have w2 : okw y = true := by simp only [okw, decide_eq_true_eq]; omega
    unfold leok at h
    rw [hok, w1, w2] at h
    cases h

end Go.Proofs.Ytmdhcigkhapolaa
