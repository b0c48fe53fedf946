/-
  Sums of a part of leases.
-/
import Derived.Test.YtdbkjcnanffibaaUL
namespace Go.Proofs.Ytdbkjcnanffibaa
open Go.RowKit Go.Deep Go.Maps Go.Shelf
set_option linter.unusedVariables false
set_option linter.unusedSimpArgs false

/-- What a queue's leases use, as a list's sum. -/
def sumL (q : Int) : List Le → Int × Int
  | [] => (0, 0)
  | x :: r => if x.qu = q then ((sumL q r).1 + (x.sl : Int), (sumL q r).2 + x.me) else sumL q r
theorem sumL_snoc (q : Int) (x : Le) : ∀ l : List Le, sumL q (l ++ [x]) = if x.qu = q then ((sumL q l).1 + (x.sl : Int), (sumL q l).2 + x.me) else sumL q l := by
  intro l
  induction l with
  | nil => rfl
  | cons y r ih =>
    rw [List.cons_append]
    unfold sumL
    rw [ih]
    by_cases h1 : x.qu = q <;> by_cases h2 : y.qu = q <;> simp [h1, h2] <;> omega
theorem sumL_cons (q : Int) (x : Le) (r : List Le) : sumL q (x :: r) = if x.qu = q then ((sumL q r).1 + (x.sl : Int), (sumL q r).2 + x.me) else sumL q r := rfl
theorem useT_sum (l : List Le) (q : Int) : ∀ {k : Nat}, k ≤ l.length → useT l q k = sumL q (l.take k) := by
  intro k
  induction k with
  | zero => intro _; simp [useT, sumL]
  | succ k ih =>
    intro hk
    rw [List.take_add_one, la_get (by omega)]
    simp only [Option.toList_some]
    rw [sumL_snoc, ← ih (by omega)]
    rfl
theorem sumL_le {q : Int} {m l : List Le} (h : m.Sublist l) : gdB l = true → 0 ≤ (sumL q m).1 ∧ (sumL q m).1 ≤ (sumL q l).1 ∧ 0 ≤ (sumL q m).2 ∧ (sumL q m).2 ≤ (sumL q l).2 := by
  have pos : ∀ {x : Le}, x.gd = true → 0 ≤ x.me := by
    intro x hx
    unfold Le.gd at hx
    rw [Bool.and_eq_true] at hx
    exact (okv_true hx.2).2.1
  induction h with
  | slnil => intro _; simp [sumL]
  | cons y h ih =>
    intro hg
    unfold gdB at hg
    rw [List.all_cons, Bool.and_eq_true] at hg
    have h1 := ih hg.2
    have h2 := pos hg.1
    rw [sumL_cons q y]
    split
    · simp only; omega
    · exact h1
  | cons_cons y h ih =>
    intro hg
    unfold gdB at hg
    rw [List.all_cons, Bool.and_eq_true] at hg
    have h1 := ih hg.2
    have h2 := pos hg.1
    rw [sumL_cons, sumL_cons]
    split
    · simp only; omega
    · exact h1
theorem fitT_all {l : List Le} (h : ∀ k, k < l.length → okv (useT l (la l k).qu (k + 1)) = true) : ∀ n, n ≤ l.length → fitT l n = true := by
  intro n
  induction n with
  | zero => intro _; rfl
  | succ n ih =>
    intro hn
    unfold fitT
    rw [ih (by omega), h n (by omega)]; rfl
/-- A part of leases that are right is right. -/
theorem useErr_part {m l : List Le} (h : m.Sublist l) (he : useErr l = 0) : useErr m = 0 := by
  unfold useErr at he
  split at he
  · rename_i hg
    split at he
    · rename_i hf
      have hgm : gdB m = true := by
        unfold gdB at hg ⊢
        rw [List.all_eq_true] at hg ⊢
        exact fun x hx => hg x (h.subset hx)
      have hfm : fitT m m.length = true := by
        refine fitT_all (fun k hk => ?_) _ (Nat.le_refl _)
        rw [useT_sum m _ (by omega)]
        have h1 := sumL_le (q := (la m k).qu) ((List.take_sublist (k + 1) m).trans h) hg
        have h2 := okv_true (fitT_ok (q := (la m k).qu) hf)
        rw [useT_sum l _ (Nat.le_refl _), List.take_length] at h2
        obtain ⟨⟨a1, a2⟩, a3, a4⟩ := h2
        unfold okv okp
        rw [decide_eq_true_eq]
        refine ⟨⟨?_, ?_⟩, ?_, ?_⟩ <;> omega
      unfold useErr
      rw [if_pos hgm, if_pos hfm]
    · cases he
  · cases he
theorem read_last {l : List Qu} {ls : List Le} (h : readE l ls = 0) : useErr (lastL ls) = 0 := by
  unfold readE at h
  split at h
  · split at h
    · rename_i he
      rw [lastL_eq]
      exact useErr_part List.filter_sublist he
    · rename_i h1; exact absurd h h1
  · rename_i h1; exact absurd h h1
end Go.Proofs.Ytdbkjcnanffibaa
