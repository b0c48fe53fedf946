/-
  Plain facts on a division of 128 bits by 64, half by half. No Go text.
-/
import Derived.Laws.Bits64b
namespace Go.Proofs.Ytmajoognpggcpaa

/-- One half: the estimate is at least the quotient, and what the loop asks decides between the two. -/
structure Half (U v yn1 yn0 q : Nat) : Prop where
  q_lt : q < 4294967296
  q_le : q ≤ U / yn1
  est : U / yn1 ≤ 4294967297
  ok : ∀ q1 r, q1 * yn1 + r = U → q1 * yn0 ≤ 4294967296 * r + v → q1 ≤ q
  no : ∀ q1 r, q1 * yn1 + r = U → 4294967296 * r + v < q1 * yn0 → q < q1
  big : ∀ q1 r, q1 * yn1 + r = U → q1 ≤ 4294967296 → 4294967296 ≤ r → q1 ≤ q

theorem half_of (U v yn1 yn0 Y : Nat) (hY : Y = yn1 * 4294967296 + yn0) (h1 : 2147483648 ≤ yn1) (h0 : yn0 < 4294967296) (hU : U < Y) (hv : v < 4294967296) :
    Half U v yn1 yn0 ((U * 4294967296 + v) / Y) := by
  have yp : 0 < Y := by omega
  have key : ∀ q1 r, q1 * yn1 + r = U → q1 * Y = (q1 * yn1) * 4294967296 + q1 * yn0 ∧ U * 4294967296 = (q1 * yn1) * 4294967296 + r * 4294967296 := by
    intro q1 r e
    refine ⟨by rw [hY, Nat.mul_add, Nat.mul_assoc], ?_⟩
    rw [← e, Nat.add_mul]
  refine ⟨?_, ?_, ?_, ?_, ?_, ?_⟩
  · apply (Nat.div_lt_iff_lt_mul yp).2
    have : U * 4294967296 + 4294967296 ≤ Y * 4294967296 := by omega
    omega
  · apply (Nat.le_div_iff_mul_le (by omega)).2
    have h := Nat.div_mul_le_self (U * 4294967296 + v) Y
    generalize (U * 4294967296 + v) / Y = q at h ⊢
    have e : q * Y = (q * yn1) * 4294967296 + q * yn0 := by rw [hY, Nat.mul_add, Nat.mul_assoc]
    omega
  · have : U / yn1 < 4294967298 := by
      apply (Nat.div_lt_iff_lt_mul (by omega)).2
      omega
    omega
  · intro q1 r e h
    obtain ⟨a, b⟩ := key q1 r e
    apply (Nat.le_div_iff_mul_le yp).2
    omega
  · intro q1 r e h
    obtain ⟨a, b⟩ := key q1 r e
    apply (Nat.div_lt_iff_lt_mul yp).2
    omega
  · intro q1 r e h hr
    obtain ⟨a, b⟩ := key q1 r e
    apply (Nat.le_div_iff_mul_le yp).2
    have : q1 * yn0 ≤ 4294967296 * 4294967295 := Nat.mul_le_mul h (by omega)
    omega

/-- The same, of whole numbers from 0 on. -/
structure HalfZ (U v yn1 yn0 q : Int) : Prop where
  q_lt : q < 4294967296
  q_le : q ≤ U / yn1
  est : U / yn1 ≤ 4294967297
  ok : ∀ q1 r : Int, 0 ≤ q1 → 0 ≤ r → q1 * yn1 + r = U → q1 * yn0 ≤ 4294967296 * r + v → q1 ≤ q
  no : ∀ q1 r : Int, 0 ≤ q1 → 0 ≤ r → q1 * yn1 + r = U → 4294967296 * r + v < q1 * yn0 → q < q1
  big : ∀ q1 r : Int, 0 ≤ q1 → 0 ≤ r → q1 * yn1 + r = U → q1 ≤ 4294967296 → 4294967296 ≤ r → q1 ≤ q

theorem halfZ_of {U v yn1 yn0 q : Nat} (h : Half U v yn1 yn0 q) : HalfZ U v yn1 yn0 q := by
  refine ⟨by have := h.q_lt; omega, by have := h.q_le; rw [← Int.natCast_ediv]; omega, by have := h.est; rw [← Int.natCast_ediv]; omega, ?_, ?_, ?_⟩
  · intro q1 r h1 h2 e k
    obtain ⟨q1, rfl⟩ := Int.eq_ofNat_of_zero_le h1
    obtain ⟨r, rfl⟩ := Int.eq_ofNat_of_zero_le h2
    rw [← Int.natCast_mul] at e k
    have := h.ok q1 r (by omega) (by omega)
    omega
  · intro q1 r h1 h2 e k
    obtain ⟨q1, rfl⟩ := Int.eq_ofNat_of_zero_le h1
    obtain ⟨r, rfl⟩ := Int.eq_ofNat_of_zero_le h2
    rw [← Int.natCast_mul] at e k
    have := h.no q1 r (by omega) (by omega)
    omega
  · intro q1 r h1 h2 e k k2
    obtain ⟨q1, rfl⟩ := Int.eq_ofNat_of_zero_le h1
    obtain ⟨r, rfl⟩ := Int.eq_ofNat_of_zero_le h2
    rw [← Int.natCast_mul] at e
    have := h.big q1 r (by omega) (by omega) (by omega)
    omega

/-- The words of a number shifted. -/
theorem shifted (h l y s : Nat) (hs : 1 ≤ s) (hs' : s ≤ 63) (hh : h < y) (hl : l < 18446744073709551616) :
    (h * 2 ^ s + l / 2 ^ (64 - s)) * 18446744073709551616 + l * 2 ^ s % 18446744073709551616 = (h * 18446744073709551616 + l) * 2 ^ s ∧ h * 2 ^ s + l / 2 ^ (64 - s) < y * 2 ^ s ∧ l / 2 ^ (64 - s) < 2 ^ s := by
  have e : 2 ^ (64 - s) * 2 ^ s = 18446744073709551616 := by rw [← Nat.pow_add, show 64 - s + s = 64 by omega]
  have p : 0 < 2 ^ s := Nat.pow_pos (by omega)
  have d : l * 2 ^ s / 18446744073709551616 = l / 2 ^ (64 - s) := by rw [← e, Nat.mul_div_mul_right _ _ p]
  have m := Nat.div_add_mod (l * 2 ^ s) 18446744073709551616
  rw [d] at m
  have lt : l / 2 ^ (64 - s) < 2 ^ s := by
    apply (Nat.div_lt_iff_lt_mul (Nat.pow_pos (by omega))).2
    rw [Nat.mul_comm, e]; exact hl
  refine ⟨?_, ?_, lt⟩
  · rw [Nat.add_mul, Nat.add_mul (h * 18446744073709551616), Nat.mul_right_comm]
    omega
  · have : (h + 1) * 2 ^ s ≤ y * 2 ^ s := Nat.mul_le_mul_right _ hh
    rw [Nat.add_mul] at this
    omega

theorem lin_sumZ {U v1 v0 A R1 C R0 : Int} (h1 : U * 4294967296 + v1 = A + R1) (h0 : R1 * 4294967296 + v0 = C + R0) :
    U * 18446744073709551616 + (v1 * 4294967296 + v0) = A * 4294967296 + C + R0 := by
  obtain rfl : v1 = A + R1 - U * 4294967296 := by omega
  obtain rfl : v0 = C + R0 - R1 * 4294967296 := by omega
  omega
theorem lin_sum {U v1 v0 A R1 C R0 : Nat} (h1 : U * 4294967296 + v1 = A + R1) (h0 : R1 * 4294967296 + v0 = C + R0) :
    U * 18446744073709551616 + (v1 * 4294967296 + v0) = A * 4294967296 + C + R0 := by
  have a : (U : Int) * 4294967296 + v1 = A + R1 := by clear h0; omega
  have b : (R1 : Int) * 4294967296 + v0 = C + R0 := by clear h1 a; omega
  have c := lin_sumZ a b
  clear a b h1 h0
  omega

/-- The halves together. -/
theorem together {T y s U V v1 v0 Y Q1 R1 Q0 R0 : Nat} (hy : 0 < y) (hT : U * 18446744073709551616 + V = T * 2 ^ s) (hY : Y = y * 2 ^ s) (hV : V = v1 * 4294967296 + v0)
    (h1 : U * 4294967296 + v1 = Q1 * Y + R1) (h0 : R1 * 4294967296 + v0 = Q0 * Y + R0) (hR : R0 < Y) :
    Q1 * 4294967296 + Q0 = T / y ∧ R0 / 2 ^ s = T % y := by
  have p : 0 < 2 ^ s := Nat.pow_pos (by omega)
  have e : T * 2 ^ s = (Q1 * 4294967296 + Q0) * Y + R0 := by
    have e1 : (Q1 * 4294967296 + Q0) * Y = (Q1 * Y) * 4294967296 + Q0 * Y := by rw [Nat.add_mul, Nat.mul_right_comm Q1 4294967296 Y]
    rw [← hT, hV, e1]
    exact lin_sum h1 h0
  generalize Q1 * 4294967296 + Q0 = Q at e ⊢
  rw [hY, ← Nat.mul_assoc] at e
  have hQ : Q * y ≤ T := Nat.le_of_mul_le_mul_right (by omega) p
  have hr : R0 = (T - Q * y) * 2 ^ s := by rw [Nat.sub_mul]; omega
  have hlt : T - Q * y < y := by
    rw [hY, hr] at hR
    exact Nat.lt_of_mul_lt_mul_right hR
  have hTy : T = y * Q + (T - Q * y) := by rw [Nat.mul_comm y Q]; omega
  have a := Nat.div_mod_unique hy (a := T) (d := Q) (c := T - Q * y)
  obtain ⟨b, c⟩ := a.2 ⟨by rw [Nat.mul_comm]; omega, hlt⟩
  refine ⟨b.symm, ?_⟩
  rw [hr, Nat.mul_div_cancel _ p, c]

theorem or_sum (h l s : Nat) (hl : l < 2 ^ s) : h * 2 ^ s ||| l = h * 2 ^ s + l := by
  rw [Nat.mul_comm h, Nat.two_pow_add_eq_or_of_lt hl]

theorem or_int (h l s : Nat) (h1 : h * 2 ^ s < 18446744073709551616) (hl : l < 2 ^ s) (h2 : l < 18446744073709551616) :
    bits .or .u64 ((h * 2 ^ s : Nat) : Int) (l : Int) = ((h * 2 ^ s + l : Nat) : Int) := by
  rw [bits_or_u64_nat _ _ h1 h2, or_sum h l s hl]

/-- A rest, reckoned by 64 bits alone. -/
theorem rest_wrap (U v q Y R : Nat) (h : U * 4294967296 + v = q * Y + R) (hR : R < 18446744073709551616) :
    IntKind.u64.wrap (IntKind.u64.wrap (IntKind.u64.wrap ((U : Int) * 4294967296) + (v : Int)) - IntKind.u64.wrap ((q : Int) * (Y : Int))) = (R : Int) := by
  rw [IntKind.wrap_u64, IntKind.wrap_u64, IntKind.wrap_u64, IntKind.wrap_u64, ← Int.natCast_mul]
  generalize q * Y = p at h ⊢
  omega

end Go.Proofs.Ytmajoognpggcpaa
