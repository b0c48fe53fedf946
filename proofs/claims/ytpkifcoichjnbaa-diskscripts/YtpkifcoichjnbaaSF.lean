/-
  Contracts of strip: what is read at any place.
-/
import Derived.Test.YtpkifcoichjnbaaSE
namespace Go.Proofs.Ytpkifcoichjnbaa
open Go.RowKit Go.Deep
set_option linter.unusedVariables false

theorem pow7 (n : Nat) (h : n < 8) : (256 : Int) ^ n ≤ 72057594037927936 := below8 (P := fun n => (256 : Int) ^ n ≤ 72057594037927936) (by decide) (by decide) (by decide) (by decide) (by decide) (by decide) (by decide) (by decide) n h
theorem or8 {v x : Int} (v0 : 0 ≤ v) (v1 : v < 72057594037927936) (x0 : 0 ≤ x) (x1 : x ≤ 255) : bits .or .u64 (v * 256) x = v * 256 + x := by
  obtain ⟨a, rfl⟩ := Int.eq_ofNat_of_zero_le v0
  obtain ⟨b, rfl⟩ := Int.eq_ofNat_of_zero_le x0
  have e : (a : Int) * 256 = ((a * 256 : Nat) : Int) := by omega
  rw [e, bits_or_u64_nat _ _ (by omega) (by omega)]
  have := Nat.two_pow_add_eq_or_of_lt (i := 8) (b := b) (by omega) a
  rw [show a * 256 = 2 ^ 8 * a by omega, ← this]
  omega

/-- What is read at a place: the number, the place behind it or of the fault, the error. -/
def rd (l : List Int) (at' : Int) : Int × Int × Int :=
  if at' < 0 ∨ (l.length : Int) < at' then (0, 0, 1)
  else if at' = l.length then (0, l.length, 5)
  else if l[at'.toNat]?.getD 0 < 192 then (l[at'.toNat]?.getD 0, at' + 1, 0)
  else if 200 ≤ l[at'.toNat]?.getD 0 then (0, at', 4)
  else if (l.length : Int) - at' - 1 < l[at'.toNat]?.getD 0 - 191 then (0, l.length, 5)
  else if 18446744073709551615 < beg (l[at'.toNat]?.getD 0 - 191).toNat + val ((l.drop (at'.toNat + 1)).take (l[at'.toNat]?.getD 0 - 191).toNat) then (0, at', 4)
  else (beg (l[at'.toNat]?.getD 0 - 191).toNat + val ((l.drop (at'.toNat + 1)).take (l[at'.toNat]?.getD 0 - 191).toNat), at' + 1 + (l[at'.toNat]?.getD 0 - 191), 0)

theorem ret3 {k m n : IntKind} {a b c x y z : Int} (h : (x, y, z) = (a, b, c)) : Ending.returned (.tuple #[.int k a, .int m b, .int n c]) = .returned (.tuple #[.int k x, .int m y, .int n z]) := by cases h; rfl

/-- The cells from a place on. -/
theorem holds_from {w : World} {b off len cap : Nat} {l : List Int} (h : HoldsB w (some ⟨b, off, none⟩) len cap l) (k : Nat) (hk : k ≤ len) (a : Option Addr) (ha : ¬ cap = k → a = some ⟨b, off + k, none⟩) (hn : a ≠ none) : HoldsB w a (len - k) (cap - k) (l.drop k) := by
  obtain ⟨h1, h2, h3, h4, h5, h6, h7⟩ := h
  refine ⟨by simp [h1], by omega, by omega, by omega, h5.drop k, fun e => absurd e hn, fun hp => ?_⟩
  obtain ⟨b', off', e, hc⟩ := h7 (by omega)
  cases e
  refine ⟨b, off + k, ha (by omega), fun j hj => ?_⟩
  rw [Nat.add_assoc, hc (k + j) (by omega), List.getElem?_drop]

end Go.Proofs.Ytpkifcoichjnbaa
