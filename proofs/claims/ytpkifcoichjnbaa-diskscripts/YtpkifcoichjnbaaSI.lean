/-
  Contracts of strip: the weights of bytes; bytes guarded, by the program and by the document.
-/
import Derived.Test.YtpkifcoichjnbaaSH
namespace Go.Proofs.Ytpkifcoichjnbaa
open Go.RowKit Go.Deep
set_option linter.unusedVariables false

/-- The two sums of the first k bytes. -/
def W1 (l : List Int) (k : Nat) : Int := ((List.range k).map fun i => l[i]?.getD 0).sum
def W2 (l : List Int) (k : Nat) : Int := ((List.range k).map fun i : Nat => l[i]?.getD 0 * ((i : Int) + 1)).sum
theorem W1_succ (l : List Int) (k : Nat) : W1 l (k + 1) = W1 l k + l[k]?.getD 0 := by simp [W1, List.range_succ]
theorem W2_succ (l : List Int) (k : Nat) : W2 l (k + 1) = W2 l k + l[k]?.getD 0 * ((k : Int) + 1) := by simp [W2, List.range_succ]
theorem term_bd {x : Int} {k : Nat} (x0 : 0 ≤ x) (x1 : x ≤ 255) (hk : k < 60000) : 0 ≤ x * ((k : Int) + 1) ∧ x * ((k : Int) + 1) ≤ 15300000 := by
  refine ⟨Int.mul_nonneg x0 (by omega), ?_⟩
  have : x * ((k : Int) + 1) ≤ 255 * 60000 := Int.mul_le_mul x1 (by omega) (by omega) (by omega)
  omega
theorem W_bd (l : List Int) (h : BB l) (k : Nat) (hk : k ≤ 60000) : 0 ≤ W1 l k ∧ W1 l k ≤ 255 * k ∧ 0 ≤ W2 l k ∧ W2 l k ≤ 15300000 * k := by
  induction k with
  | zero => simp [W1, W2]
  | succ k ih =>
    have := ih (by omega)
    have x := h.getD k
    have t := term_bd (k := k) x.1 x.2 (by omega)
    rw [W1_succ, W2_succ]
    omega
def P1 (l : List Int) : Int := W1 l l.length % 65521
def P2 (l : List Int) : Int := W2 l l.length % 65521
theorem P_bd (l : List Int) : 0 ≤ P1 l ∧ P1 l < 65521 ∧ 0 ≤ P2 l ∧ P2 l < 65521 := by unfold P1 P2; omega
/-- Bytes guarded. -/
def gd (l : List Int) : List Int := l ++ [P1 l / 256, P1 l % 256, P2 l / 256, P2 l % 256]
theorem gd_BB {l : List Int} (h : BB l) : BB (gd l) := by
  have := P_bd l
  exact h.app (BB.cons (by omega) (by omega) (BB.cons (by omega) (by omega) (BB.cons (by omega) (by omega) (BB.one (by omega) (by omega)))))

/-- The cells of an array of two, and that they may be written. -/
def Arr (w : World) (B : Nat) (x y : Int) : Prop := w.cell? ⟨B, 0, none⟩ = some (.int .i64 x) ∧ w.cell? ⟨B, 1, none⟩ = some (.int .i64 y) ∧ w.frozen? ⟨B, 0, none⟩ = false ∧ w.frozen? ⟨B, 1, none⟩ = false

end Go.Proofs.Ytpkifcoichjnbaa
