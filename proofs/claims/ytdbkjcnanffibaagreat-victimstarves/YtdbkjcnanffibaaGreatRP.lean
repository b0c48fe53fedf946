/-
  The document's answer for queues: Room.
-/
import Derived.Test.YtdbkjcnanffibaaGreatRO
namespace Go.Proofs.YtdbkjcnanffibaaGreat
open Go.RowKit Go.Deep Go.Maps Go.Shelf
set_option linter.unusedVariables false

theorem sumsE_zero {l : List Qu} {us : List Us} (h : sumsE l us = 0) : chkE l = 0 ∧ fitsB l us = true := by
  unfold sumsE at h
  split at h
  · rename_i h2; exact absurd h h2
  · rename_i h1
    split at h
    · rename_i h2; exact absurd h h2
    · split at h
      · cases h
      · rename_i h3
        refine ⟨Decidable.of_not_not h1, ?_⟩
        cases hh : fitsB l us
        · exact absurd hh h3
        · rfl
theorem fits_at {l : List Qu} {us : List Us} (h : fitsB l us = true) {i : Nat} (hi : i < l.length) : okv (vecAt l us i) = true := by
  unfold fitsB at h
  rw [List.all_eq_true] at h
  exact h i (List.mem_range.2 hi)
theorem va_vecs {l : List Qu} {us : List Us} {k i : Nat} (h : i < k) : va (vecsTo l us k) i = vecAt l us i := by
  unfold va vecsTo
  rw [List.getElem?_map, List.getElem?_range h]
  rfl
/-- A queue's fourth field. -/
theorem run_quota (a b c d e f g : Int) (w : World) : Sem.run Tryz.prog (Instr.field 38 (.agg #[.int .i64 a, .int .i64 b, .int .i64 c, .int .i64 d, .int .i64 e, .int .i64 f, .int .i64 g]) 3) w = .ok (.agg #[.int .i64 d, .int .i64 e]) w := by kernel_rfl

/-- .. of a right use. -/
def pathE (l : List Qu) (us : List Us) (P : Nat) (mc mm : Int) : Int := if (pth l P).all (fitAt l us mc mm) = true then 0 else 11
theorem pathE_no {l : List Qu} {us : List Us} {P : Nat} {mc mm : Int} {i : Nat} (h : i ∈ pth l P) (e : fitAt l us mc mm i = false) : pathE l us P mc mm = 11 := by
  unfold pathE
  rw [if_neg]
  intro hh
  rw [List.all_eq_true] at hh
  have := hh i h
  rw [e] at this; cases this
theorem pathE_yes {l : List Qu} {us : List Us} {P : Nat} {mc mm : Int} (h : ∀ i ∈ pth l P, fitAt l us mc mm i = true) : pathE l us P mc mm = 0 := by
  unfold pathE
  rw [if_pos]
  rw [List.all_eq_true]
  exact h

end Go.Proofs.YtdbkjcnanffibaaGreat
