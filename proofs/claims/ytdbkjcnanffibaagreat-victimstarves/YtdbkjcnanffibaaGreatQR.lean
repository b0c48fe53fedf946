/-
  Contracts of queue: Leaves, Children, Path, Below.
-/
import Derived.Test.YtdbkjcnanffibaaGreatQQ
namespace Go.Proofs.YtdbkjcnanffibaaGreat
open Go.RowKit Go.Deep Go.Maps Go.Shelf
set_option linter.unusedVariables false

def leavesR (l : List Qu) : List Int := if chkE l = 0 then idsAt l (leafs l) else []
theorem Gives.drew {l : List Qu} {gf : Nat} {lbs : Array Value} {ps : List (Fin l.length)} {w : World} (h : Gives l gf lbs ps w) : Gives l gf lbs ps w.drew :=
  ⟨h.1, fun W X N hW hX hN hNW => h.2 W X N ⟨hW.os, hW.tape, hW.output, hW.size, hW.block⟩ hX hN hNW⟩
theorem Tree.drew {w : World} {lb off len cap mb : Nat} {l : List Qu} (h : Tree w lb off len cap mb l) : Tree w.drew lb off len cap mb l := h.below (Below.refl _ _).drew
theorem AnsN.nil (base : Nat) (w : World) : AnsN base w (.slice none 0 0) [] := OwnE.nil _ _ _ _ _
theorem ansN_of {base : Nat} {w : World} {v : Value} {l : List Qu} {ps : List (Fin l.length)} (h : OwnN base w v ps.length (ps.map (fun i => (qa l i.val).id))) : AnsN base w v (idsAt l ps) := by
  unfold AnsN idsAt
  rw [List.length_map]
  exact h

/-- The error of a list and a queue. -/
def thereE (l : List Qu) (id : Int) : Int := if chkE l ≠ 0 then chkE l else if hasQ l id = false then 8 else 0
theorem pthF_len (l : List Qu) (i : Nat) (h : i < l.length) : (pthF l i h).length ≤ i + 1 := by
  have := congrArg List.length (pthF_map i h)
  rw [List.length_map] at this
  rw [this]
  exact pth_len i

/-- What Children answers. -/
def childrenR (l : List Qu) (id : Int) : List Int := if thereE l id = 0 then idsAt l (kids l id) else []

/-- What Path answers. -/
def upR (l : List Qu) (id : Int) : List Int := if thereE l id = 0 then (pth l (pl l id)).map (fun i => (qa l i).id) else []

/-- What Below answers. -/
def downR (l : List Qu) (id : Int) : List Int := if thereE l id = 0 then idsAt l (downs l (pl l id)) else []

end Go.Proofs.YtdbkjcnanffibaaGreat
