/-
  What a list of things answers that are read one behind another: plain mathematics.
-/
import Derived.Test.YtkjglpgjflkmbaaCR
namespace Go.Proofs.Ytkjglpgjflkmbaa
open Go.RowKit Go.Deep
set_option linter.unusedVariables false

section
variable {α : Type}
/-- The place and the error behind k things. -/
def lsS (pe : Int → Int → α × Int × Int) (A E : Int) : Nat → Int × Int
  | 0 => (A, E)
  | k + 1 => (pe (lsS pe A E k).1 (lsS pe A E k).2).2
/-- The k-th thing. -/
def lsV (pe : Int → Int → α × Int × Int) (A E : Int) (k : Nat) : α := (pe (lsS pe A E k).1 (lsS pe A E k).2).1
/-- How many are read, of so many more, k being read. -/
def lsN (pe : Int → Int → α × Int × Int) (A E : Int) : Nat → Nat → Nat
  | 0, k => k
  | f + 1, k => if (lsS pe A E (k + 1)).2 = 0 then lsN pe A E f (k + 1) else k
theorem lsN_le (pe : Int → Int → α × Int × Int) (A E : Int) : ∀ f k, k ≤ lsN pe A E f k ∧ lsN pe A E f k ≤ k + f
  | 0, k => ⟨Nat.le_refl _, Nat.le_refl _⟩
  | f + 1, k => by
    unfold lsN
    split
    · have := lsN_le pe A E f (k + 1); omega
    · omega
theorem lsN_yes (pe : Int → Int → α × Int × Int) (A E : Int) : ∀ f k j, k ≤ j → j < lsN pe A E f k → (lsS pe A E (j + 1)).2 = 0
  | 0, k, j, h1, h2 => by unfold lsN at h2; omega
  | f + 1, k, j, h1, h2 => by
    unfold lsN at h2
    split at h2
    · rename_i h
      rcases Nat.eq_or_lt_of_le h1 with e | e
      · subst e; exact h
      · exact lsN_yes pe A E f (k + 1) j (by omega) h2
    · omega
theorem lsN_no (pe : Int → Int → α × Int × Int) (A E : Int) : ∀ f k, lsN pe A E f k < k + f → (lsS pe A E (lsN pe A E f k + 1)).2 ≠ 0
  | 0, k, h => by unfold lsN at h; omega
  | f + 1, k, h => by
    unfold lsN at h ⊢
    split
    · rename_i h1
      rw [if_pos h1] at h
      exact lsN_no pe A E f (k + 1) (by omega)
    · rename_i h1; exact h1
/-- All of n are read. -/
theorem lsN_all (pe : Int → Int → α × Int × Int) (A E : Int) (f k : Nat) (h : ∀ j, k ≤ j → j < k + f → (lsS pe A E (j + 1)).2 = 0) : lsN pe A E f k = k + f := by
  have h1 := lsN_le pe A E f k
  apply Classical.byContradiction
  intro hn
  have h2 := lsN_no pe A E f k (by omega)
  exact h2 (h _ h1.1 (by omega))
/-- How many there are, of so many. -/
def lsC (pe : Int → Int → α × Int × Int) (A E : Int) (c : Int) : Nat := lsN pe A E c.toNat 0
/-- The things that are read. -/
def lsL (pe : Int → Int → α × Int × Int) (A E c : Int) : List α := (List.range (lsC pe A E c)).map (lsV pe A E)
/-- The place and the error behind them. -/
def lsF (pe : Int → Int → α × Int × Int) (A E c : Int) : Int × Int := if lsC pe A E c < c.toNat then lsS pe A E (lsC pe A E c + 1) else lsS pe A E (lsC pe A E c)
theorem lsC_le (pe : Int → Int → α × Int × Int) (A E c : Int) : lsC pe A E c ≤ c.toNat := by have := (lsN_le pe A E c.toNat 0).2; unfold lsC; omega
theorem lsL_len (pe : Int → Int → α × Int × Int) (A E c : Int) : (lsL pe A E c).length = lsC pe A E c := by simp [lsL]
theorem lsL_take (pe : Int → Int → α × Int × Int) (A E c : Int) {k : Nat} (h : k < lsC pe A E c) : (List.range (k + 1)).map (lsV pe A E) = (List.range k).map (lsV pe A E) ++ [lsV pe A E k] := by
  rw [List.range_succ, List.map_append]; rfl
end
end Go.Proofs.Ytkjglpgjflkmbaa
