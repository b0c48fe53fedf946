/-
  Contracts: the length in bits, by the library's own contract.
-/
import Derived.Test.YtmajoognpggcpaaWK
import Derived.Shelf.Strconv.Itoa0
import Derived.Lib.ItoaNum
namespace Go.Proofs.Ytmajoognpggcpaa
open Go.RowKit Go.Shelf

def ren64 : Go.Shelf.Ren := ⟨fun | 129 => 84 | n => n, fun | 3 => 3 | 4 => 4 | 5 => 5 | 9 => 9 | 46 => 98 | 53 => 51 | n => n, fun n => n⟩

theorem lays129 : Lays.n129 Try.prog ren64 := {
  mixed := by kernel_rfl, f129 := by kernel_rfl,
  t3 := by kernel_rfl, a3 := by intro w; kernel_rfl, z3 := by intro w; kernel_rfl, v3 := by intro w; kernel_rfl,
  t4 := by kernel_rfl, a4 := by intro w; kernel_rfl, z4 := by intro w; kernel_rfl, v4 := by intro w; kernel_rfl,
  t5 := by kernel_rfl, a5 := by intro w; kernel_rfl, z5 := by intro w; kernel_rfl, v5 := by intro w; kernel_rfl,
  t9 := by kernel_rfl, a9 := by intro w; kernel_rfl, z9 := by intro w; kernel_rfl, v9 := by intro w; kernel_rfl,
  t46 := by kernel_rfl, a46 := by intro w; kernel_rfl, z46 := by intro w; kernel_rfl, v46 := by intro w; kernel_rfl,
  t53 := by kernel_rfl, a53 := by intro w; kernel_rfl, z53 := by intro w; kernel_rfl, v53 := by intro w; kernel_rfl }

theorem len64_any (x : Int) (w : World) (h0 : 0 ≤ x) (h1 : x ≤ 18446744073709551615) :
    Calls Try.prog 84 #[.int .u64 x] w fun e w' => e = .returned (.int .i64 (Lib.bitLen x.toNat)) ∧ w' = w := Any.bits_Len64 lays129 x w h0 h1

/-- How far a number is to be shifted so that its highest bit is the 64th. -/
theorem bitLen_norm (y : Nat) (h1 : 1 ≤ y) (h2 : y ≤ 9223372036854775807) :
    1 ≤ Lib.bitLen y ∧ Lib.bitLen y ≤ 63 ∧ 9223372036854775808 ≤ y * 2 ^ (64 - Lib.bitLen y) ∧ y * 2 ^ (64 - Lib.bitLen y) < 18446744073709551616 := by
  obtain ⟨a, b, c⟩ := Lib.bitLenAux_bounds 64 y (by omega) (by omega)
  have hb : Lib.bitLenAux 64 y = Lib.bitLen y := rfl
  rw [hb] at a b c
  have d := Lib.bitLen_le y 63 (by omega) (by omega)
  refine ⟨a, d, ?_, ?_⟩
  · have e : 2 ^ (Lib.bitLen y - 1) * 2 ^ (64 - Lib.bitLen y) = 9223372036854775808 := by
      rw [← Nat.pow_add, show Lib.bitLen y - 1 + (64 - Lib.bitLen y) = 63 by omega]
    rw [← e]; exact Nat.mul_le_mul_right _ b
  · have e : 2 ^ (Lib.bitLen y) * 2 ^ (64 - Lib.bitLen y) = 18446744073709551616 := by
      rw [← Nat.pow_add, show Lib.bitLen y + (64 - Lib.bitLen y) = 64 by omega]
    rw [← e]; exact Nat.mul_lt_mul_of_pos_right c (Nat.pow_pos (by omega))

theorem lz_core (y L : Nat) (hL : Lib.bitLen y = L) (b : L ≤ 63) (h2 : y ≤ 9223372036854775807) (w : World) :
    Calls Try.prog 74 #[.int .u64 y] w fun e w' => e = .returned (.int .i64 ((64 - L : Nat) : Int)) ∧ w = w' := by
  have H := fun w => len64_any (y : Int) w (by omega) (by omega)
  simp only [Int.toNat_natCast, hL] at H
  clear hL
  have H := hid H
  rename_i H0
  clear H0
  go_enter Try.func74, Try.ntmps74
  go_wp2_with fail
  refine (H.out _).mono ?_
  rintro e w1 ⟨rfl, hw⟩
  rw [hw]
  clear hw
  go_wp2
  go_ret
  exact ⟨ret1 (by omega), rfl⟩

theorem lz64_any (y : Nat) (h1 : 1 ≤ y) (h2 : y ≤ 9223372036854775807) (w : World) :
    Calls Try.prog 74 #[.int .u64 y] w fun e w' => e = .returned (.int .i64 ((64 - Lib.bitLen y : Nat) : Int)) ∧ w = w' :=
  lz_core y _ rfl (bitLen_norm y h1 h2).2.1 h2 w

end Go.Proofs.Ytmajoognpggcpaa
