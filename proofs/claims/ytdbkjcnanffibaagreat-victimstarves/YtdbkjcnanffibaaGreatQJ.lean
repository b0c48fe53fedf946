/-
  Contracts of queue: the leaves, yielded.
-/
import Derived.Test.YtdbkjcnanffibaaGreatQE
namespace Go.Proofs.YtdbkjcnanffibaaGreat
open Go.RowKit Go.Deep Go.Maps Go.Shelf
set_option linter.unusedVariables false
attribute [local go_sem] Oper.semAt_some

def leafsTo (l : List Qu) (k : Nat) : List (Fin l.length) := (upF l k).filter (fun i => leafB l (qa l i.val).id)
def leafs (l : List Qu) : List (Fin l.length) := (List.finRange l.length).filter (fun i => leafB l (qa l i.val).id)
theorem leafsTo_all (l : List Qu) : leafsTo l l.length = leafs l := by unfold leafsTo leafs; rw [upF_all]
theorem leafsTo_yes {l : List Qu} {k : Nat} (h : k < l.length) (e : leafB l (qa l k).id = true) : leafsTo l (k + 1) = leafsTo l k ++ [⟨k, h⟩] := by
  unfold leafsTo; rw [upF_succ h, List.filter_append]; simp [e]
theorem leafsTo_no {l : List Qu} {k : Nat} (h : k < l.length) (e : leafB l (qa l k).id = false) : leafsTo l (k + 1) = leafsTo l k := by
  unfold leafsTo; rw [upF_succ h, List.filter_append]; simp [e]
theorem leafsTo_pre (l : List Qu) (k : Nat) : leafsTo l k <+: leafs l := (upF_pre l k).filter _
theorem leafsTo_lt {l : List Qu} {k : Nat} (h : k < l.length) (e : leafB l (qa l k).id = true) : (leafsTo l k).length < (leafs l).length := by
  have := (leafsTo_pre l (k + 1)).length_le
  rw [leafsTo_yes h e] at this
  simp at this
  omega

end Go.Proofs.YtdbkjcnanffibaaGreat
