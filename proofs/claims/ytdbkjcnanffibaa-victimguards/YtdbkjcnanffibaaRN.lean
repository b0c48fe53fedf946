/-
  The document's answer for queues: Sums, whole.
-/
import Derived.Test.YtdbkjcnanffibaaRM
namespace Go.Proofs.Ytdbkjcnanffibaa
open Go.RowKit Go.Deep Go.Maps Go.Shelf
set_option linter.unusedVariables false
theorem usesE_ne {l : List Qu} : ∀ {us : List Us}, (¬ ∀ u ∈ us, useE l u = 0) → usesE l us ≠ 0 := by
  intro us
  induction us with
  | nil => intro h; exact absurd (fun u hu => by cases hu) h
  | cons u r ih =>
    intro h
    unfold usesE
    by_cases h0 : useE l u = 0
    · rw [if_neg (by rw [h0]; decide)]
      refine ih (fun hr => h (fun x hx => ?_))
      rcases List.mem_cons.1 hx with rfl | hx
      · exact h0
      · exact hr x hx
    · rw [if_pos h0]; exact h0
end Go.Proofs.Ytdbkjcnanffibaa
