/-
  Contract of furlongref02: times.
-/
import Derived.Test.YtmdhcigkhapolaaVL
import Derived.Laws.BitsLemmas
import Derived.Deep.DeepCutAuto
import Derived.Deep.CutBlock
namespace Go.Proofs.Ytmdhcigkhapolaa
open Go.RowKit Go.Shelf
set_option linter.unusedVariables false
set_option linter.unusedSimpArgs false

theorem i64_low (n : Int) : bits .and .i64 n 1 = n % 2 := by
  have h1 : (BitVec.ofInt 64 1).toNat = 2 ^ 1 - 1 := by decide
  have key : (BitVec.ofInt 64 n &&& BitVec.ofInt 64 1).toNat = (n % ((2 ^ 64 : Nat) : Int)).toNat % 2 ^ 1 := by
    rw [BitVec.toNat_and, BitVec.toNat_ofInt, h1, Nat.and_two_pow_sub_one_eq_mod]
  show IntKind.i64.wrap ((BitVec.ofInt 64 n &&& BitVec.ofInt 64 1).toNat : Nat) = n % 2
  rw [key, IntKind.wrap_i64]
  omega

/-- What is kept of the sum's cells. -/
def Held6 (wr : World) (B6 B7 B8 : Nat) (p S : Int) : Prop :=
  (wr.cell? ⟨B6, 0, none⟩ = some (.int .i64 0) ∧ wr.cell? ⟨B6, 1, none⟩ = some (.int .u64 0) ∧ wr.frozen? ⟨B6, 0, none⟩ = false ∧ wr.frozen? ⟨B6, 1, none⟩ = false) ∧
  (wr.cell? ⟨B7, 0, none⟩ = some (.int .i64 (hi p)) ∧ wr.cell? ⟨B7, 1, none⟩ = some (.int .u64 (lo p))) ∧
  (wr.cell? ⟨B8, 0, none⟩ = some (.int .i64 (hi S)) ∧ wr.cell? ⟨B8, 1, none⟩ = some (.int .u64 (lo S)) ∧ wr.frozen? ⟨B8, 0, none⟩ = false ∧ wr.frozen? ⟨B8, 1, none⟩ = false)

theorem bit_step {x : Int} {j : Nat} : x / 2 ^ j = 2 * (x / 2 ^ (j + 1)) + (x / 2 ^ j) % 2 := by
  rw [Int.pow_succ, ← Int.ediv_ediv_of_nonneg (Int.pow_nonneg (by omega))]
  omega
theorem bit_bd {x : Int} (h0 : 0 ≤ x) (h1 : x < 2097152) (k : Nat) : 0 ≤ x / 2 ^ k ∧ x / 2 ^ k < 2097152 := by
  refine ⟨Int.ediv_nonneg h0 (Int.pow_nonneg (by omega)), Int.lt_of_le_of_lt (Int.ediv_le_self _ h0) h1⟩
theorem S_bd {p x : Int} (p0 : 0 ≤ p) (p1 : p ≤ 1208925819614629174706176) (x0 : 0 ≤ x) (x1 : x < 2097152) (k : Nat) : 0 ≤ p * (x / 2 ^ k) ∧ p * (x / 2 ^ k) ≤ 2535301200456458802993406410752 := by
  obtain ⟨b0, b1⟩ := bit_bd x0 x1 k
  refine ⟨Int.mul_nonneg p0 b0, ?_⟩
  have := Int.mul_le_mul p1 (show x / 2 ^ k ≤ 2097152 by omega) b0 (by omega)
  exact Int.le_trans this (by decide)
theorem sum_step (p x : Int) (j : Nat) : ((x / 2 ^ j) % 2 = 1 → p * (x / 2 ^ j) = p * (x / 2 ^ (j + 1)) + p * (x / 2 ^ (j + 1)) + p) ∧ ((x / 2 ^ j) % 2 = 0 → p * (x / 2 ^ j) = p * (x / 2 ^ (j + 1)) + p * (x / 2 ^ (j + 1))) := by
  have h := @bit_step x j
  constructor
  · intro e; rw [e] at h; rw [h, Int.mul_add, Int.mul_left_comm, Int.mul_one]; omega
  · intro e; rw [e] at h; rw [h, Int.add_zero, Int.mul_left_comm]; omega
theorem I128_bd {n : Int} (h0 : 0 ≤ n) (h1 : n ≤ 170141183460469231731687303715884105727) : I128 n := by unfold I128 hi; omega

set_option maxHeartbeats 4000000 in
theorem wtimes_any (a b x p : Int) (ha : I64 a) (hb : I64 b) (hp : Hid (a * b = p)) (p0 : 0 ≤ p) (p1 : p ≤ 1208925819614629174706176) (x0 : 0 ≤ x) (x1 : x < 2097152) (w : World) :
    Calls Try.prog 65 #[.int .i64 a, .int .i64 b, .int .i64 x] w fun e w' => e = .returned (.agg #[.int .i64 (hi (p * x)), .int .u64 (lo (p * x))]) ∧ Below w.heap.size w w' := by
  have TP := fun w => times_any a b ha hb w
  rw [hp.out] at TP
  have TP := hid TP
  rename_i TP0
  clear TP0 hp
  go_enter Try.func65, Try.ntmps65
  go_wp2_with fail
  refine (TP.out _).mono ?_
  rintro e w1 ⟨rfl, h1⟩
  have f0 := keepf h1 (a := ⟨w.heap.size, 0, none⟩) (v := .int .i64 0) (by simp [go_sem]) (by simp [go_sem])
  have r0 := keepc h1 (a := ⟨w.heap.size, 0, none⟩) (v := .int .i64 0) (by simp [go_sem])
  have f1 := keepf h1 (a := ⟨w.heap.size, 1, none⟩) (v := .int .u64 0) (by simp [go_sem]) (by simp [go_sem])
  have r1 := keepc h1 (a := ⟨w.heap.size, 1, none⟩) (v := .int .u64 0) (by simp [go_sem])
  have sz : w.heap.size + 1 ≤ w1.heap.size := by have := h1.size; simpa using this
  have hB1 : Below w.heap.size w w1 := Below.trans (by repeat (first | exact Below.refl _ _ | assumption | refine Below.alloc ?_ (by simp <;> omega) _ | refine Below.setCell ?_ (by simp <;> omega) _ | refine Below.drew ?_ | refine below_drewN ?_ _)) (h1.mono (by simp <;> omega))
  have n1 : w.heap.size ≠ w1.heap.size := by omega
  have n2 : w.heap.size ≠ w1.heap.size + 1 := by omega
  go_wp2_with fail
  go_loopw [9] (fun i wr => ∃ (k : Nat), k ≤ 21 ∧ i = .int .i64 ((k : Int) - 1) ∧ Held6 wr w.heap.size w1.heap.size (w1.heap.size + 1) p (p * (x / 2 ^ k)) ∧ Below w.heap.size w wr) (fun i _ => (intOf i + 1).toNat)
  case atStart =>
    have z : x / 2 ^ 21 = 0 := Int.ediv_eq_zero_of_lt x0 x1
    have bb : Below w1.heap.size w1 ((w1.alloc (.cells #[.int .i64 (hi p), .int .u64 (lo p)] 54)).alloc (.cells #[.int .i64 0, .int .u64 0] 54)) := (by repeat (first | exact Below.refl _ _ | assumption | refine Below.alloc ?_ (by simp <;> omega) _ | refine Below.setCell ?_ (by simp <;> omega) _ | refine Below.drew ?_ | refine below_drewN ?_ _))
    refine ⟨21, by omega, rfl, ?_, hB1.trans (bb.mono hB1.size)⟩
    rw [z, Int.mul_zero]
    refine ⟨⟨keepc bb r0, keepc bb r1, keepf bb r0 f0, keepf bb r1 f1⟩, ⟨by simp [go_sem], by simp [go_sem]⟩, ?_⟩
    rw [hl_zero.1, hl_zero.2]
    exact ⟨by simp [go_sem], by simp [go_sem], by simp [go_sem], by simp [go_sem]⟩
  case round =>
    clear r0 r1 f0 f1 hB1 h1
    obtain ⟨k, hk, rfl, ⟨⟨c0, c1, c2, c3⟩, ⟨d0, d1⟩, ⟨e0, e1, e2, e3⟩⟩, hB⟩ := hrel
    by_cases hk0 : k = 0
    · subst hk0
      rw [show p * (x / 2 ^ 0) = p * x by simp] at e0 e1
      have hs := hB.size
      go_wp2
      exact bodyPost_ret (v := .agg #[.int .i64 (hi (p * x)), .int .u64 (lo (p * x))]) (by simp [results, Try.results65, go_sem, c0, c1]) rfl ⟨rfl, (hB.setCell (by simp <;> omega) _).setCell (by simp <;> omega) _⟩
    · obtain ⟨j, rfl⟩ : ∃ j, k = j + 1 := ⟨k - 1, by omega⟩
      have hj : j ≤ 20 := by omega
      rw [show (((j + 1 : Nat) : Int) - 1) = (j : Int) by omega]
      obtain ⟨s0, s1⟩ := S_bd p0 p1 x0 x1 (j + 1)
      have st := sum_step p x j
      generalize p * (x / 2 ^ (j + 1)) = S at *
      have hr : I128 (S + S) := I128_bd (by omega) (by omega)
      have hr2 : I128 (S + S + p) := I128_bd (by omega) (by omega)
      by_cases hbit : (x / 2 ^ j) % 2 = 1
      · have tb : (bits BinOp.and IntKind.i64 (x / 2 ^ j) 1 == 1) = true := by rw [i64_low, hbit]; rfl
        have SP := hid (st.1 hbit)
        clear st hbit s0 s1
        go_wp2_with fail
        refine (plus_any S S hr _).mono ?_
        rintro e w2 ⟨rfl, h2⟩
        have y0 := keepc h2 c0; have y1 := keepc h2 c1; have y2 := keepf h2 c0 c2; have y3 := keepf h2 c1 c3
        have z0 := keepc h2 d0; have z1 := keepc h2 d1
        have u0 := keepc h2 e0; have u1 := keepc h2 e1; have u2 := keepf h2 e0 e2; have u3 := keepf h2 e1 e3
        have hB2 := hB.trans (h2.mono hB.size)
        clear c0 c1 c2 c3 d0 d1 e0 e1 e2 e3 h2 hB
        go_wp2_with fail
        refine (plus_any (S + S) p hr2 _).mono ?_
        rintro e w3 ⟨rfl, h3⟩
        have a0 := keepc h3 (a := ⟨w.heap.size, 0, none⟩) (v := .int .i64 0) (by simp [go_sem, y0, n2, n2.symm])
        have a1 := keepc h3 (a := ⟨w.heap.size, 1, none⟩) (v := .int .u64 0) (by simp [go_sem, y1, n2, n2.symm])
        have a2 := keepf h3 (a := ⟨w.heap.size, 0, none⟩) (v := .int .i64 0) (by simp [go_sem, y0, n2, n2.symm]) (by simp [go_sem, y2, n2, n2.symm])
        have a3 := keepf h3 (a := ⟨w.heap.size, 1, none⟩) (v := .int .u64 0) (by simp [go_sem, y1, n2, n2.symm]) (by simp [go_sem, y3, n2, n2.symm])
        have b0 := keepc h3 (a := ⟨w1.heap.size, 0, none⟩) (v := .int .i64 (hi p)) (by simp [go_sem, z0])
        have b1 := keepc h3 (a := ⟨w1.heap.size, 1, none⟩) (v := .int .u64 (lo p)) (by simp [go_sem, z1])
        have v0 := keepc h3 (a := ⟨w1.heap.size + 1, 0, none⟩) (v := .int .i64 (hi (S + S))) (by simp [go_sem, u0, u1])
        have v1 := keepc h3 (a := ⟨w1.heap.size + 1, 1, none⟩) (v := .int .u64 (lo (S + S))) (by simp [go_sem, u0, u1])
        have v2 := keepf h3 (a := ⟨w1.heap.size + 1, 0, none⟩) (v := .int .i64 (hi (S + S))) (by simp [go_sem, u0, u1]) (by simp [go_sem, u2, u3])
        have v3 := keepf h3 (a := ⟨w1.heap.size + 1, 1, none⟩) (v := .int .u64 (lo (S + S))) (by simp [go_sem, u0, u1]) (by simp [go_sem, u2, u3])
        have hs := hB2.size
        have hC : Below w.heap.size w ((w2.setCell ⟨w1.heap.size + 1, 0, none⟩ (.int .i64 (hi (S + S)))).setCell ⟨w1.heap.size + 1, 1, none⟩ (.int .u64 (lo (S + S)))) := (hB2.setCell (by simp <;> omega) _).setCell (by simp <;> omega) _
        have hB3 := hC.trans (h3.mono hC.size)
        clear h3 y0 y1 y2 y3 z0 z1 u0 u1 u2 u3 hB2 hC hs
        go_wp2_with fail
        go_roundw
        case rel =>
          refine ⟨j, by omega, rfl, ?_, (hB3.setCell (by simp <;> omega) _).setCell (by simp <;> omega) _⟩
          rw [SP.out]
          exact ⟨⟨by simp [go_sem, a0, n2, n2.symm], by simp [go_sem, a1, n2, n2.symm], by simp [go_sem, a2, n2, n2.symm], by simp [go_sem, a3, n2, n2.symm]⟩, ⟨by simp [go_sem, b0], by simp [go_sem, b1]⟩, ⟨by simp [go_sem, v0, v1], by simp [go_sem, v0, v1], by simp [go_sem, v2, v3], by simp [go_sem, v2, v3]⟩⟩
        case measure => simp [intOf]
      · have tb : (bits BinOp.and IntKind.i64 (x / 2 ^ j) 1 == 1) = false := by rw [i64_low]; simp; omega
        have SP := hid (st.2 (by omega))
        clear st hbit s0 s1
        go_wp2_with fail
        refine (plus_any S S hr _).mono ?_
        rintro e w2 ⟨rfl, h2⟩
        have y0 := keepc h2 c0; have y1 := keepc h2 c1; have y2 := keepf h2 c0 c2; have y3 := keepf h2 c1 c3
        have z0 := keepc h2 d0; have z1 := keepc h2 d1
        have u0 := keepc h2 e0; have u1 := keepc h2 e1; have u2 := keepf h2 e0 e2; have u3 := keepf h2 e1 e3
        have hB2 := hB.trans (h2.mono hB.size)
        clear c0 c1 c2 c3 d0 d1 e0 e1 e2 e3 h2 hB
        go_wp2_with fail
        go_roundw
        case rel =>
          refine ⟨j, by omega, rfl, ?_, (hB2.setCell (by simp <;> omega) _).setCell (by simp <;> omega) _⟩
          rw [SP.out]
          exact ⟨⟨by simp [go_sem, y0, n2, n2.symm], by simp [go_sem, y1, n2, n2.symm], by simp [go_sem, y2, n2, n2.symm], by simp [go_sem, y3, n2, n2.symm]⟩, ⟨by simp [go_sem, z0], by simp [go_sem, z1]⟩, ⟨by simp [go_sem, u0, u1], by simp [go_sem, u0, u1], by simp [go_sem, u2, u3], by simp [go_sem, u2, u3]⟩⟩
        case measure => simp [intOf]

end Go.Proofs.Ytmdhcigkhapolaa
