/-
  Contracts of strip: Mend of any bytes; the calls whose answers are fixed.
-/
import Derived.Test.YtpkifcoichjnbaaSO
namespace Go.Proofs.Ytpkifcoichjnbaa
open Go.RowKit Go.Deep
set_option linter.unusedVariables false
/-- A slice literal. -/
theorem own_arr (w : World) (l : List Int) (cs : Array Value) (n : Nat) (hn : l.length = n) (hcs : cs.toList = l.map (Value.int .u8)) (hb : BB l) (hm : n ≤ 1000) : Own w.heap.size (w.alloc (.cells cs 5)) (.slice (some ⟨w.heap.size, 0, none⟩) n n) n l := by
  refine ⟨?_, hb⟩
  rw [← hcs]
  refine World.ownsRow_lit w cs n (Nat.le_refl _) (by unfold maxLen; omega) ?_
  have := congrArg List.length hcs
  simp at this
  omega

theorem holds_arr (l : List Int) (cs : Array Value) (n : Nat) (hn : l.length = n) (hcs : cs.toList = l.map (Value.int .u8)) (hb : BB l) (hm : n ≤ 1000) (w : World) (k : Nat) (hk : k = w.heap.size) : HoldsB (w.alloc (.cells cs 5)) (some ⟨k, 0, none⟩) n n l := by
  subst hk
  exact (own_arr w l cs n hn hcs hb hm).holds
theorem BBd {l : List Int} (h : l.all (fun x => decide (0 ≤ x ∧ x ≤ 255)) = true) : BB l := fun x hx => by simpa using List.all_eq_true.1 h x hx

end Go.Proofs.Ytpkifcoichjnbaa
