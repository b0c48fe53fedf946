/-
  Sums of the first uses: never above those of all.
-/
import Derived.Test.YtdbkjcnanffibaaGreatRM
namespace Go.Proofs.YtdbkjcnanffibaaGreat
open Go.RowKit Go.Deep
set_option linter.unusedVariables false

theorem sumU_append (f : Us → Int) (l : List Qu) (i : Nat) (a b : List Us) : sumU f l i (a ++ b) = sumU f l i a + sumU f l i b := by
  induction a with
  | nil => simp [sumU]
  | cons x a ih => simp only [List.cons_append, sumU, ih]; omega
theorem sumU_take (f : Us → Int) (l : List Qu) (i j : Nat) (us : List Us) (h : ∀ u ∈ us, 0 ≤ f u) : 0 ≤ sumU f l i (us.take j) ∧ sumU f l i (us.take j) ≤ sumU f l i us := by
  have h1 := sumU_nonneg f l i (us.take j) (fun u hu => h u (List.mem_of_mem_take hu))
  have h2 := sumU_nonneg f l i (us.drop j) (fun u hu => h u (List.mem_of_mem_drop hu))
  have h3 := sumU_append f l i (us.take j) (us.drop j)
  rw [List.take_append_drop] at h3
  omega
/-- Where all fit, the first ones do. -/
theorem fits_take {l : List Qu} {us : List Us} (hA : ∀ u ∈ us, useE l u = 0) {i : Nat} (j : Nat) (hf : okv (vecAt l us i) = true) : okv (vecAt l (us.take j) i) = true := by
  obtain ⟨h1, h2⟩ := okv_true hf
  have hc := sumU_take Us.uc l i j us (fun u hu => (useE_zero (hA u hu)).2.2.1.1)
  have hm := sumU_take Us.um l i j us (fun u hu => (useE_zero (hA u hu)).2.2.2.1)
  unfold okp vecAt at h1 h2
  simp only at h1 h2
  unfold okv okp vecAt
  simp only [decide_eq_true_eq]
  omega
/-- A first sum that is too great: not all fit. -/
theorem over_take {l : List Qu} {us : List Us} (hA : ∀ u ∈ us, useE l u = 0) {i j : Nat} (hi : i < l.length) (h : okv (vecAt l (us.take j) i) = false) : fitsB l us = false := by
  cases hf : okv (vecAt l us i)
  · exact fitsB_no hi hf
  · rw [fits_take hA j hf] at h; cases h
/-- What one use more brings to a place. -/
theorem vecAt_snoc {l : List Qu} {us : List Us} {j i : Nat} (hj : j < us.length) : vecAt l (us.take (j + 1)) i = ((vecAt l (us.take j) i).1 + (if i ∈ pth l (pl l (ua us j).qu) then (ua us j).uc else 0), (vecAt l (us.take j) i).2 + (if i ∈ pth l (pl l (ua us j).qu) then (ua us j).um else 0)) := by
  unfold vecAt
  rw [ua_snoc hj, sumU_snoc, sumU_snoc]

end Go.Proofs.YtdbkjcnanffibaaGreat
