/-
  Contract: math/bits.Div64.
-/
import Derived.Test.YtmajoognpggcpaaWN
import Derived.Test.YtmajoognpggcpaaDM
import Derived.Deep.DeepCutAuto
import Derived.Deep.CutBlock
namespace Go.Proofs.Ytmajoognpggcpaa
open Go.RowKit
set_option linter.unusedVariables false

theorem prodZ {a b : Int} (a0 : 0 ≤ a) (a1 : a ≤ 4294967295) (b0 : 0 ≤ b) (b1 : b ≤ 4294967295) : IntKind.u64.wrap (a * b) = a * b := by
  have h1 := Int.mul_nonneg a0 b0
  have h2 := Int.mul_le_mul a1 b1 b0 (show (0 : Int) ≤ 4294967295 by omega)
  rw [IntKind.wrap_u64]; omega

/-- What the loops keep of their two numbers. -/
def Bd (q1 r Q : Int) : Prop := Q ≤ q1 ∧ q1 ≤ 4294967297 ∧ 0 ≤ r ∧ r < 4294967296

theorem inv_step {q1 yn1 r U : Int} (h : q1 * yn1 + r = U) : Hid ((q1 - 1) * yn1 + (r + yn1) = U) := by
  show (q1 - 1) * yn1 + (r + yn1) = U
  rw [← h, Int.sub_mul, Int.one_mul]
  omega

set_option maxRecDepth 100000 in
set_option maxHeartbeats 8000000 in
theorem div64_core (h l y Y yn1 yn0 H Lh U V v1 v0 A1 C1 Q1 R1 A0 C0 Q0 R0 : Int) (s : Nat) (w : World)
    (hs : 1 ≤ s) (hs' : s ≤ 63) (hy : 1 ≤ y) (hy' : y ≤ 9223372036854775807) (hh : h < y) (h0 : 0 < h) (hl0 : 0 ≤ l) (hl : l ≤ 18446744073709551615)
    (LZ : Hid (∀ w : World, Calls Try.prog 74 #[.int .u64 y] w fun e w' => e = .returned (.int .i64 (s : Int)) ∧ w = w'))
    (e1 : IntKind.u64.wrap (y * 2 ^ s) = Y) (e2 : Y / 4294967296 = yn1) (e3 : bits .and .u64 Y 4294967295 = yn0)
    (e4 : IntKind.u64.wrap (h * 2 ^ s) = H) (e5 : l / 2 ^ (64 - s) = Lh) (e6 : bits .or .u64 H Lh = U)
    (e7 : IntKind.u64.wrap (l * 2 ^ s) = V) (e8 : V / 4294967296 = v1) (e9 : bits .and .u64 V 4294967295 = v0)
    (b1 : 2147483648 ≤ yn1) (b2 : yn1 < 4294967296) (b3' : 0 ≤ yn0) (b3 : yn0 < 4294967296) (b4' : 0 ≤ U) (b4 : U < Y) (b5 : Y ≤ 18446744073709551615) (b6' : 0 ≤ v1) (b6 : v1 < 4294967296) (b7' : 0 ≤ v0) (b7 : v0 < 4294967296)
    (e10 : U / yn1 = A1) (a1 : 0 ≤ A1) (e11 : IntKind.u64.wrap (U - IntKind.u64.wrap (A1 * yn1)) = C1)
    (HF1 : Hid (HalfZ U v1 yn1 yn0 Q1)) (q1le : Q1 ≤ A1) (q1est : A1 ≤ 4294967297) (b8' : 0 ≤ C1) (b8 : C1 < 4294967296) (IN1 : Hid (A1 * yn1 + C1 = U))
    (e12 : IntKind.u64.wrap (IntKind.u64.wrap (IntKind.u64.wrap (U * 4294967296) + v1) - IntKind.u64.wrap (Q1 * Y)) = R1) (b10' : 0 ≤ R1) (b10 : R1 < Y)
    (e13 : R1 / yn1 = A0) (a0 : 0 ≤ A0) (e14 : IntKind.u64.wrap (R1 - IntKind.u64.wrap (A0 * yn1)) = C0)
    (HF0 : Hid (HalfZ R1 v0 yn1 yn0 Q0)) (q0le : Q0 ≤ A0) (q0est : A0 ≤ 4294967297) (b9' : 0 ≤ C0) (b9 : C0 < 4294967296) (IN0 : Hid (A0 * yn1 + C0 = R1))
    (e15 : IntKind.u64.wrap (IntKind.u64.wrap (IntKind.u64.wrap (R1 * 4294967296) + v0) - IntKind.u64.wrap (Q0 * Y)) = R0) (b11' : 0 ≤ R0) (b11 : R0 < Y) (b12' : 0 ≤ Q1) (b12 : Q1 < 4294967296) (b13' : 0 ≤ Q0) (b13 : Q0 < 4294967296) :
    Calls Try.prog 53 #[.int .u64 h, .int .u64 l, .int .u64 y] w fun e w' => e = .returned (.tuple #[.int .u64 (Q1 * 4294967296 + Q0), .int .u64 (R0 / 2 ^ s)]) ∧ w = w' := by
  have t1 : (y == 0) = false := by simp; omega
  have t2 : decide (y ≤ h) = false := by simp; omega
  have t3 : (h == 0) = false := by simp; omega
  have t4 : ¬ yn1 = 0 := by omega
  go_enter Try.func53, Try.ntmps53
  go_wp2_with fail
  refine (LZ.out _).mono ?_
  rintro e w1 ⟨rfl, rfl⟩
  go_upto_block 0 with fail
  simp only [e10]
  go_cut [15, 16] (fun a b wx => ∃ c : Int, a = .int .u64 Q1 ∧ b = .int .u64 c ∧ wx = w)
  case first =>
    go_wp2_with fail
    go_loop [15, 16] (fun a b => ∃ q1 r : Int, Bd q1 r Q1 ∧ a = .int .u64 q1 ∧ b = .int .u64 r ∧ Hid (q1 * yn1 + r = U)) (fun a _ => (intOf a).toNat)
    case atStart => exact ⟨_, _, ⟨q1le, q1est, b8', b8⟩, rfl, rfl, IN1⟩
    case round =>
      obtain ⟨q1, r, ⟨hq, hqb, hr0, hr⟩, rfl, rfl, hinv⟩ := hrel
      by_cases c1 : 4294967296 ≤ q1
      · have u1 : decide (4294967296 ≤ q1) = true := by simp; omega
        have gt : Q1 < q1 := by omega
        by_cases c2 : 4294967296 ≤ r + yn1
        · have u2 : decide (4294967296 ≤ r + yn1) = true := by simp; omega
          go_wp2_with fail
          go_meet
          exact ⟨r + yn1, by have := HF1.out.big (q1 - 1) (r + yn1) (by omega) (by omega) (inv_step hinv.out) (by omega) c2; rw [show q1 - 1 = Q1 by omega], rfl, rfl⟩
        · have u2 : decide (4294967296 ≤ r + yn1) = false := by simp; omega
          go_wp2_with fail
          go_round
          case rel => exact ⟨q1 - 1, r + yn1, ⟨by omega, by omega, by omega, by omega⟩, rfl, rfl, inv_step hinv.out⟩
          case measure => simp [intOf]; omega
      · have u1 : decide (4294967296 ≤ q1) = false := by simp; omega
        have pw : IntKind.u64.wrap (q1 * yn0) = q1 * yn0 := prodZ (by omega) (by omega) (by omega) (by omega)
        by_cases c3 : 4294967296 * r + v1 < q1 * yn0
        · have u3 : decide (4294967296 * r + v1 < q1 * yn0) = true := by simp; omega
          have gt : Q1 < q1 := HF1.out.no q1 r (by omega) hr0 hinv.out c3
          by_cases c2 : 4294967296 ≤ r + yn1
          · have u2 : decide (4294967296 ≤ r + yn1) = true := by simp; omega
            go_wp2_with fail
            go_meet
            exact ⟨r + yn1, by have := HF1.out.big (q1 - 1) (r + yn1) (by omega) (by omega) (inv_step hinv.out) (by omega) c2; rw [show q1 - 1 = Q1 by omega], rfl, rfl⟩
          · have u2 : decide (4294967296 ≤ r + yn1) = false := by simp; omega
            go_wp2_with fail
            go_round
            case rel => exact ⟨q1 - 1, r + yn1, ⟨by omega, by omega, by omega, by omega⟩, rfl, rfl, inv_step hinv.out⟩
            case measure => simp [intOf]; omega
        · have u3 : decide (4294967296 * r + v1 < q1 * yn0) = false := by simp; omega
          have ge : q1 ≤ Q1 := HF1.out.ok q1 r (by omega) hr0 hinv.out (by omega)
          go_wp2_with fail
          go_meet
          exact ⟨r, by rw [show q1 = Q1 by omega], rfl, rfl⟩
  case rest =>
    obtain ⟨c, rfl, rfl, rfl⟩ := hcut
    go_upto_block 2 with fail
    simp only [e13]
    go_cut [16, 18] (fun b a wx => ∃ c : Int, a = .int .u64 Q0 ∧ b = .int .u64 c ∧ wx = wc)
    case first =>
      go_wp2_with fail
      go_loop [16, 18] (fun b a => ∃ q1 r : Int, Bd q1 r Q0 ∧ a = .int .u64 q1 ∧ b = .int .u64 r ∧ Hid (q1 * yn1 + r = R1)) (fun _ a => (intOf a).toNat)
      case atStart => exact ⟨_, _, ⟨q0le, q0est, b9', b9⟩, rfl, rfl, IN0⟩
      case round =>
        obtain ⟨q1, r, ⟨hq, hqb, hr0, hr⟩, rfl, rfl, hinv⟩ := hrel
        by_cases c1 : 4294967296 ≤ q1
        · have u1 : decide (4294967296 ≤ q1) = true := by simp; omega
          have gt : Q0 < q1 := by omega
          by_cases c2 : 4294967296 ≤ r + yn1
          · have u2 : decide (4294967296 ≤ r + yn1) = true := by simp; omega
            go_wp2_with fail
            go_meet
            exact ⟨r + yn1, by have := HF0.out.big (q1 - 1) (r + yn1) (by omega) (by omega) (inv_step hinv.out) (by omega) c2; rw [show q1 - 1 = Q0 by omega], rfl, rfl⟩
          · have u2 : decide (4294967296 ≤ r + yn1) = false := by simp; omega
            go_wp2_with fail
            go_round
            case rel => exact ⟨q1 - 1, r + yn1, ⟨by omega, by omega, by omega, by omega⟩, rfl, rfl, inv_step hinv.out⟩
            case measure => simp [intOf]; omega
        · have u1 : decide (4294967296 ≤ q1) = false := by simp; omega
          have pw : IntKind.u64.wrap (q1 * yn0) = q1 * yn0 := prodZ (by omega) (by omega) (by omega) (by omega)
          by_cases c3 : 4294967296 * r + v0 < q1 * yn0
          · have u3 : decide (4294967296 * r + v0 < q1 * yn0) = true := by simp; omega
            have gt : Q0 < q1 := HF0.out.no q1 r (by omega) hr0 hinv.out c3
            by_cases c2 : 4294967296 ≤ r + yn1
            · have u2 : decide (4294967296 ≤ r + yn1) = true := by simp; omega
              go_wp2_with fail
              go_meet
              exact ⟨r + yn1, by have := HF0.out.big (q1 - 1) (r + yn1) (by omega) (by omega) (inv_step hinv.out) (by omega) c2; rw [show q1 - 1 = Q0 by omega], rfl, rfl⟩
            · have u2 : decide (4294967296 ≤ r + yn1) = false := by simp; omega
              go_wp2_with fail
              go_round
              case rel => exact ⟨q1 - 1, r + yn1, ⟨by omega, by omega, by omega, by omega⟩, rfl, rfl, inv_step hinv.out⟩
              case measure => simp [intOf]; omega
          · have u3 : decide (4294967296 * r + v0 < q1 * yn0) = false := by simp; omega
            have ge : q1 ≤ Q0 := HF0.out.ok q1 r (by omega) hr0 hinv.out (by omega)
            go_wp2_with fail
            go_meet
            exact ⟨r, by rw [show q1 = Q0 by omega], rfl, rfl⟩
    case rest =>
      obtain ⟨c2, rfl, rfl, rfl⟩ := hcut
      go_wp2
      go_ret2
      exact ⟨rfl, rfl⟩

end Go.Proofs.Ytmajoognpggcpaa
