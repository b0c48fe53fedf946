/-
  QueueTotals' lists: what is added up step by step.
-/
import Derived.Test.YtglifgnaecbniaaRR
import Derived.Test.YtglifgnaecbniaaRS
import Derived.Test.YtglifgnaecbniaaRU
import Derived.Test.YtglifgnaecbniaaQS
namespace Go.Proofs.Ytglifgnaecbniaa
open Go.RowKit Go.Deep
set_option linter.unusedVariables false

theorem neqv_same (a b : Int) (w : World) : Sem.run Try.prog (binOp BinOp.neq 26 (.agg #[.int .i64 a, .int .i64 b]) (.agg #[.int .i64 a, .int .i64 b])) w = .ok (.bool false) w := by
  have hS2 : Try.prog.underlying 26 = some (.struct (Try.prog.fieldsOf 26)) := by kernel_rfl
  have hp2 : Try.prog.stoodInHeld 26 = false := by kernel_rfl
  have u2 := Try.underlying2
  have a2 := Try.isAgg2
  have z2 := Try.sizeOf2
  rw [run_neq_struct, show (10000 : Nat) = 9999 + 1 from rfl, run_equalIn_agg w 9999 26 _ _ hS2 hp2]
  simp only [Program.fieldsOf, Try.underlying26]
  go_simp

/-- Sums of right uses: all of them are right. -/
theorem sums_right {l : List Qu} {us : List Us} (h : sumsE l us = 0) : ∀ u ∈ us, useE l u = 0 := by
  rcases uses_split (l := l) (us := us) with hA | ⟨K, h1, h2, h3⟩
  · exact hA
  · exfalso
    have hC := (sumsE_zero h).1
    unfold sumsE at h
    rw [if_neg (by rw [hC]; decide), usesE_bad h1 h2 h3, if_pos h3] at h
    exact h3 h
/-- All that has come is the root's. -/
theorem all_step {l : List Qu} {us : List Us} (hF : Form l) (hA : ∀ u ∈ us, useE l u = 0) {k : Nat} (hk : k < us.length) : vecAt l (us.take (k + 1)) 0 = ((vecAt l (us.take k) 0).1 + (ua us k).uc, (vecAt l (us.take k) 0).2 + (ua us k).um) := by
  have hz := useE_zero (hA _ (ua_mem hk))
  rw [vecAt_snoc hk, if_pos (root_way hF _ (of_decide_eq_true hz.1)), if_pos (root_way hF _ (of_decide_eq_true hz.1))]
/-- A queue's own uses. -/
def ownAt (l : List Qu) (us : List Us) (i : Nat) : Int × Int := if leafB l (qa l i).id = true then vecAt l us i else (0, 0)
theorem own_step {l : List Qu} {us : List Us} (hF : Form l) (hA : ∀ u ∈ us, useE l u = 0) {i k : Nat} (hi : i < l.length) (hk : k < us.length) : ownAt l (us.take (k + 1)) i = if (ua us k).qu = (qa l i).id then ((ownAt l (us.take k) i).1 + (ua us k).uc, (ownAt l (us.take k) i).2 + (ua us k).um) else ownAt l (us.take k) i := by
  have hz := useE_zero (hA _ (ua_mem hk))
  have hP : pl l (ua us k).qu < l.length := of_decide_eq_true hz.1
  unfold ownAt
  cases hl : leafB l (qa l i).id
  · have : (ua us k).qu ≠ (qa l i).id := fun e => by rw [← e, hz.2.1] at hl; cases hl
    rw [if_neg this]
    rfl
  · simp only [if_pos]
    rw [vecAt_snoc hk]
    have hiff : i ∈ pth l (pl l (ua us k).qu) ↔ (ua us k).qu = (qa l i).id := by
      rw [leaf_way hF hi hl hP]
      constructor
      · intro e; rw [e]; exact (pl_id hP).symm
      · intro e; rw [e]; exact (hF.pl hi).symm
    by_cases e : (ua us k).qu = (qa l i).id
    · rw [if_pos e, if_pos (hiff.2 e), if_pos (hiff.2 e)]
    · rw [if_neg e, if_neg (fun h => e (hiff.1 h)), if_neg (fun h => e (hiff.1 h))]; simp
theorem own_ok {l : List Qu} {us : List Us} (hA : ∀ u ∈ us, useE l u = 0) (hf : fitsB l us = true) {i : Nat} (hi : i < l.length) (k : Nat) : okv (ownAt l (us.take k) i) = true := by
  unfold ownAt
  split
  · exact fits_take hA k (fits_at hf hi)
  · decide
/-- What the first k children use. -/
def kidC (l : List Qu) (us : List Us) (id : Int) (k : Nat) : Int := sumI (fun j => if (qa l j).par = id then (vecAt l us j).1 else 0) k
def kidM (l : List Qu) (us : List Us) (id : Int) (k : Nat) : Int := sumI (fun j => if (qa l j).par = id then (vecAt l us j).2 else 0) k
def kidN (l : List Qu) (id : Int) (k : Nat) : Int := sumI (fun j => if (qa l j).par = id then 1 else 0) k
theorem kid_bound {l : List Qu} {us : List Us} (hf : fitsB l us = true) (id : Int) : ∀ k, k ≤ l.length → 0 ≤ kidC l us id k ∧ kidC l us id k ≤ k * 1099511627776 ∧ 0 ≤ kidM l us id k ∧ kidM l us id k ≤ k * 1099511627776 ∧ 0 ≤ kidN l id k ∧ kidN l id k ≤ k := by
  intro k
  induction k with
  | zero => intro _; simp [kidC, kidM, kidN, sumI]
  | succ k ih =>
    intro hk
    have h0 := ih (by omega)
    have h1 := okv_true (fits_at hf (i := k) (by omega))
    unfold okp at h1
    unfold kidC kidM kidN at *
    simp only [sumI]
    split <;> omega
theorem kidN_zero {l : List Qu} {i : Nat} : kidN l (qa l i).id l.length = 0 ↔ leafB l (qa l i).id = true := by
  have key : ∀ k, k ≤ l.length → 0 ≤ kidN l (qa l i).id k ∧ (kidN l (qa l i).id k = 0 ↔ ∀ j, j < k → ¬ (qa l j).par = (qa l i).id) := by
    intro k
    induction k with
    | zero => intro _; exact ⟨by simp [kidN, sumI], by simp [kidN, sumI]⟩
    | succ k ih =>
      intro hk
      obtain ⟨h1, h2⟩ := ih (by omega)
      unfold kidN at *
      simp only [sumI]
      by_cases e : (qa l k).par = (qa l i).id
      · rw [if_pos e]
        refine ⟨by omega, ⟨fun h => by omega, fun h => absurd e (h k (by omega))⟩⟩
      · rw [if_neg e]
        refine ⟨by omega, ⟨fun h j hj => ?_, fun h => ?_⟩⟩
        · rcases Nat.lt_or_ge j k with hjk | hjk
          · exact h2.1 (by omega) j hjk
          · have : j = k := by omega
            subst this; exact e
        · have := h2.2 (fun j hj => h j (by omega)); omega
  rw [(key l.length (Nat.le_refl _)).2]
  unfold leafB kids
  rw [List.isEmpty_iff, List.filter_eq_nil_iff]
  constructor
  · intro h x _
    simpa using h x.val x.2
  · intro h j hj
    simpa using h ⟨j, hj⟩ (List.mem_finRange _)
theorem kid_all {l : List Qu} {us : List Us} (hF : Form l) (hA : ∀ u ∈ us, useE l u = 0) {i : Nat} (hi : i < l.length) (hk : leafB l (qa l i).id = false) : kidC l us (qa l i).id l.length = (vecAt l us i).1 ∧ kidM l us (qa l i).id l.length = (vecAt l us i).2 :=
  ⟨sum_children hF hi hk Us.uc us hA, sum_children hF hi hk Us.um us hA⟩

end Go.Proofs.Ytglifgnaecbniaa
