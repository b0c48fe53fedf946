/-
  The document's answer for queues: Leaves, Children, Path, Below.
-/
import Derived.Test.YtdbkjcnanffibaaRA
import Derived.Test.YtdbkjcnanffibaaRB
namespace Go.Proofs.Ytdbkjcnanffibaa
open Go.RowKit Go.Deep Go.Maps Go.Shelf
set_option linter.unusedVariables false
theorem pth_ltR {l : List Qu} {P i : Nat} (h : P < l.length) (hi : i ∈ pth l P) : i < l.length := Nat.lt_of_le_of_lt (pth_le P i hi) h
theorem id_injR {l : List Qu} (hF : Form l) {i j : Nat} (hi : i < l.length) (hj : j < l.length) (e : (qa l i).id = (qa l j).id) : i = j := by
  have h1 := hF.pl hi
  rw [e, hF.pl hj] at h1
  exact h1.symm
theorem hasN_atR {l : List Qu} (hF : Form l) {ps : List Nat} (hps : ∀ i ∈ ps, i < l.length) {k : Nat} (hk : k < l.length) : hasN (ps.map (fun i => (qa l i).id)) (qa l k).id = decide (k ∈ ps) := by
  rw [Bool.eq_iff_iff, hasN_iff, decide_eq_true_eq, List.mem_map]
  constructor
  · rintro ⟨i, hi, e⟩
    rw [← id_injR hF (hps i hi) hk e]; exact hi
  · intro h; exact ⟨k, h, rfl⟩
/-- Is a queue below another one, by the path's Ids? -/
theorem pth_under {l : List Qu} (hF : Form l) {id : Int} (hi : pl l id < l.length) {k : Nat} (hk : k < l.length) : hasN ((pth l k).map (fun i => (qa l i).id)) id = decide (pl l id ∈ pth l k) := by
  have := hasN_atR hF (ps := pth l k) (fun i h => pth_ltR hk h) hi
  rw [pl_id hi] at this
  exact this
def downsTo (l : List Qu) (P k : Nat) : List (Fin l.length) := (upF l k).filter (fun j => decide (P ∈ pth l j.val))
theorem downsTo_all (l : List Qu) (P : Nat) : downsTo l P l.length = downs l P := by unfold downsTo downs; rw [upF_all]
theorem downsTo_yes {l : List Qu} {P k : Nat} (h : k < l.length) (e : decide (P ∈ pth l k) = true) : downsTo l P (k + 1) = downsTo l P k ++ [⟨k, h⟩] := by
  unfold downsTo; rw [upF_succ h, List.filter_append]; simp at e; simp [e]
theorem downsTo_no {l : List Qu} {P k : Nat} (h : k < l.length) (e : decide (P ∈ pth l k) = false) : downsTo l P (k + 1) = downsTo l P k := by
  unfold downsTo; rw [upF_succ h, List.filter_append]; simp at e; simp [e]
theorem downsTo_pre (l : List Qu) (P k : Nat) : downsTo l P k <+: downs l P := (upF_pre l k).filter _

end Go.Proofs.Ytdbkjcnanffibaa
