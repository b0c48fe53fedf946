/-
  Contracts of queue: the Ids at places that are yielded.
-/
import Derived.Test.YtdbkjcnanffibaaGreatQD
import Derived.Stop.RegionWithIn
namespace Go.Proofs.YtdbkjcnanffibaaGreat
open Go.RowKit Go.Deep Go.Maps Go.Shelf
set_option linter.unusedVariables false
attribute [local go_sem] Oper.semAt_some

attribute [local go_sem ↓] appF_eq

/-- A function value that yields these places, whatever the rounds do to other memory. -/
def Gives (l : List Qu) (gf : Nat) (lbs : Array Value) (ps : List (Fin l.length)) (w : World) : Prop :=
  (∀ args w, (callFunc gf args).run Tryz.prog w = .ok (.enter gf args) w) ∧ ∀ (W : World) (X N : Nat), Below w.heap.size w W → w.heap.size ≤ X → w.heap.size ≤ N → N ≤ W.heap.size →
    SeqStopsK Fence.wide 4 Tryz.prog gf lbs (encF l) (Kq X N) (fun xs => xs = ps) (fun pre => pre ≠ [] ∧ pre <+: ps) ps.length W

theorem kq_set' {X N : Nat} {A B : World} {o : Nat} {v : Value} (h : Kq X N A B) : Kq X N A (B.setCell ⟨X, o, none⟩ v) := by
  refine ⟨⟨by have := h.1.size; simpa [World.setCell] using this, fun i q hi hq => ?_⟩, fun b hb hx => (Below.heap_setCell _ _ _ _ (by simpa using hx)).trans (h.2 b hb hx)⟩
  have h1 := h.1.same i q hi hq
  exact (KeepsOthers.setCell B ⟨X, o, none⟩ v).same i q h1 (Obj.not_cells_of_walk hq)

end Go.Proofs.YtdbkjcnanffibaaGreat
