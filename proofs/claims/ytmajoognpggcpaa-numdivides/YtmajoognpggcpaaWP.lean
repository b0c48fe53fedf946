/-
  Contracts: math/bits.Div64 and a product divided, of all numbers.
-/
import Derived.Test.YtmajoognpggcpaaWO
namespace Go.Proofs.Ytmajoognpggcpaa
open Go.RowKit

theorem cpow (a s : Nat) : (a : Int) * 2 ^ s = ((a * 2 ^ s : Nat) : Int) := by simp [Int.natCast_mul, Int.natCast_pow]
theorem cdivp (a s : Nat) : (a : Int) / 2 ^ s = ((a / 2 ^ s : Nat) : Int) := by simp [Int.natCast_ediv, Int.natCast_pow]
theorem rem_wrap (U n : Nat) (hU : U < 18446744073709551616) : IntKind.u64.wrap ((U : Int) - IntKind.u64.wrap (((U / n : Nat) : Int) * (n : Int))) = ((U % n : Nat) : Int) := by
  have e := Nat.div_add_mod U n
  rw [← Int.natCast_mul, Nat.mul_comm (U / n) n]
  generalize n * (U / n) = a at e ⊢
  rw [u64c _ (by omega), IntKind.wrap_u64]
  omega

theorem halves (U V Y : Nat) (yy : Y = Y / 4294967296 * 4294967296 + Y % 4294967296) (y1 : 2147483648 ≤ Y / 4294967296) (hU : U < Y) (hv : V / 4294967296 < 4294967296) :
    ∃ Q1 R1 Q0 R0, Half U (V / 4294967296) (Y / 4294967296) (Y % 4294967296) Q1 ∧ U * 4294967296 + V / 4294967296 = Q1 * Y + R1 ∧ R1 < Y
      ∧ Half R1 (V % 4294967296) (Y / 4294967296) (Y % 4294967296) Q0 ∧ R1 * 4294967296 + V % 4294967296 = Q0 * Y + R0 ∧ R0 < Y := by
  have yp : Y > 0 := by omega
  exact ⟨_, _, _, _, half_of U _ _ _ Y yy y1 (Nat.mod_lt _ (by omega)) hU hv, (Nat.div_add_mod' _ Y).symm, Nat.mod_lt _ yp,
    half_of _ _ _ _ Y yy y1 (Nat.mod_lt _ (by omega)) (Nat.mod_lt _ yp) (Nat.mod_lt _ (by omega)), (Nat.div_add_mod' _ Y).symm, Nat.mod_lt _ yp⟩

set_option maxHeartbeats 1000000 in
theorem div64_nat (h l y : Nat) (hy : 1 ≤ y) (hy' : y ≤ 9223372036854775807) (hh : h < y) (h0 : 0 < h) (hl : l < 18446744073709551616) (w : World) :
    Calls Try.prog 53 #[.int .u64 h, .int .u64 l, .int .u64 y] w fun e w' => e = .returned (.tuple #[.int .u64 (((h * 18446744073709551616 + l) / y : Nat) : Int), .int .u64 (((h * 18446744073709551616 + l) % y : Nat) : Int)]) ∧ w = w' := by
  obtain ⟨n1, n2, n3, n4⟩ := bitLen_norm y hy hy'
  have LZ := fun w => lz64_any y hy hy' w
  have s1 : 1 ≤ 64 - Lib.bitLen y := by omega
  have s2 : 64 - Lib.bitLen y ≤ 63 := by omega
  clear n1 n2
  generalize 64 - Lib.bitLen y = s at *
  obtain ⟨z1, z2, z3⟩ := shifted h l y s s1 s2 hh hl
  have hH : h * 2 ^ s < 18446744073709551616 := Nat.lt_of_le_of_lt (Nat.le_add_right _ _) (Nat.lt_trans z2 n4)
  have p2 : 2 ^ s ≤ y * 2 ^ s := Nat.le_mul_of_pos_left _ hy
  have hL : l / 2 ^ (64 - s) < 18446744073709551616 := by omega
  generalize hY : y * 2 ^ s = Y at *
  generalize hU : h * 2 ^ s + l / 2 ^ (64 - s) = U at *
  have hV : l * 2 ^ s % 18446744073709551616 < 18446744073709551616 := Nat.mod_lt _ (by omega)
  generalize hVe : l * 2 ^ s % 18446744073709551616 = V at *
  have y1 : 2147483648 ≤ Y / 4294967296 := by omega
  have y2 : Y / 4294967296 < 4294967296 := by omega
  have yy : Y = Y / 4294967296 * 4294967296 + Y % 4294967296 := by omega
  have v1 : V / 4294967296 < 4294967296 := by omega
  obtain ⟨Q1, R1, Q0, R0, F1, d1, m1, F0, d0, m0⟩ := halves U V Y yy y1 z2 v1
  have T := together (T := h * 18446744073709551616 + l) hy z1 hY.symm (show V = V / 4294967296 * 4294967296 + V % 4294967296 by omega) d1 d0 m0
  have C1 := Nat.mod_lt U (show Y / 4294967296 > 0 by omega)
  have C0 := Nat.mod_lt R1 (show Y / 4294967296 > 0 by omega)
  have I1 := Nat.div_add_mod U (Y / 4294967296)
  have I0 := Nat.div_add_mod R1 (Y / 4294967296)
  have K := div64_core h l y Y ((Y / 4294967296 : Nat) : Int) ((Y % 4294967296 : Nat) : Int) ((h * 2 ^ s : Nat) : Int) ((l / 2 ^ (64 - s) : Nat) : Int) U V ((V / 4294967296 : Nat) : Int) ((V % 4294967296 : Nat) : Int)
    ((U / (Y / 4294967296) : Nat) : Int) ((U % (Y / 4294967296) : Nat) : Int) Q1 R1 ((R1 / (Y / 4294967296) : Nat) : Int) ((R1 % (Y / 4294967296) : Nat) : Int) Q0 R0 s w s1 s2 (by omega) (by omega) (by omega) (by omega) (by omega) (by omega) LZ
    (by rw [cpow, hY, u64c _ (by omega)]) (cdiv Y) (and32 Y (by omega)) (by rw [cpow, u64c _ hH]) (cdivp l (64 - s)) (by rw [or_int h _ s hH z3 hL, hU])
    (by rw [cpow, u64m, hVe]) (cdiv V) (and32 V (by omega))
    (by omega) (by omega) (by omega) (by omega) (by omega) (by omega) (by omega) (by omega) (by omega) (by omega) (by omega)
    (by rw [← Int.natCast_ediv]) (Int.natCast_nonneg _) (rem_wrap U _ (by omega)) (halfZ_of F1) (by have := F1.q_le; omega) (by have := F1.est; omega) (by omega) (by omega) (show _ = _ by rw [← Int.natCast_mul, Nat.mul_comm]; omega)
    (rest_wrap U _ Q1 Y R1 d1 (by omega)) (by omega) (by omega)
    (by rw [← Int.natCast_ediv]) (Int.natCast_nonneg _) (rem_wrap R1 _ (by omega)) (halfZ_of F0) (by have := F0.q_le; omega) (by have := F0.est; omega) (by omega) (by omega) (show _ = _ by rw [← Int.natCast_mul, Nat.mul_comm]; omega)
    (rest_wrap R1 _ Q0 Y R0 d0 (by omega)) (by omega) (by omega) (by omega) (by have := F1.q_lt; omega) (by omega) (by have := F0.q_lt; omega)
  rw [cdivp] at K
  have e : (Q1 : Int) * 4294967296 + (Q0 : Int) = ((Q1 * 4294967296 + Q0 : Nat) : Int) := by omega
  rw [e, T.1, T.2] at K
  exact K

theorem divOk (m c : Int) (hm : 0 ≤ m) (hc : 1 ≤ c) (hc' : c ≤ 9223372036854775807) (h : hi m < c) : DivOk m c := by
  by_cases h0 : hi m = 0
  · have := lo_bd m; have := hilo m
    exact div64_0 m c hm (by omega) hc hc'
  · intro w
    have l := lo_bd m
    have e := hilo m
    have hh : 0 < hi m := by unfold hi at h0 ⊢; omega
    obtain ⟨y, rfl⟩ := Int.eq_ofNat_of_zero_le (show 0 ≤ c by omega)
    obtain ⟨a, ha⟩ := Int.eq_ofNat_of_zero_le (show 0 ≤ hi m by omega)
    obtain ⟨b, hb⟩ := Int.eq_ofNat_of_zero_le l.1
    have K := div64_nat a b y (by omega) (by omega) (by omega) (by omega) (by omega) w
    have em : m = ((a * 18446744073709551616 + b : Nat) : Int) := by omega
    rw [ha, hb]
    refine K.mono ?_
    rintro _ _ ⟨rfl, rfl⟩
    refine ⟨?_, Below.refl _ _⟩
    rw [em, Int.natCast_ediv, Int.natCast_emod]

theorem muldiv_any (a b c : Int) (ha : I64 a) (hb : I64 b) (hc : I64 c) (w : World) :
    Calls Try.prog 24 #[.int .i64 a, .int .i64 b, .int .i64 c] w fun e w' => e = .returned (.tuple #[.int .i64 (mdv a b c), .int .i64 (mde a b c)]) ∧ Below w.heap.size w w' := by
  by_cases h1 : c < 1
  · exact muldiv_small a b c h1 w
  · by_cases h2 : c ≤ hi ((a * b).natAbs : Int)
    · exact muldiv_over a b c ha hb (by omega) hc.2 h2 w
    · exact muldiv_of a b c ha hb (by omega) hc.2 (by omega) (divOk _ _ (by omega) (by omega) hc.2 (by omega)) w

end Go.Proofs.Ytmajoognpggcpaa
