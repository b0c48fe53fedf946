/-
  Contracts of strip: Guard and the document's Guarded; the weights that stand behind bytes; how much they are above the right ones.
-/
import Derived.Test.YtpkifcoichjnbaaSI
import Derived.Laws.BitsAllLaws
import Derived.Deep.RegionHeld3
namespace Go.Proofs.Ytpkifcoichjnbaa
open Go.RowKit Go.Deep
set_option linter.unusedVariables false

theorem below_alloc' (w : World) (o : Obj) : Below w.heap.size w (w.alloc o) := (Below.refl _ _).alloc (Nat.le_refl _) _

/-- A slice of two new bytes, of four. -/
theorem holds_two (w : World) (x y : Int) (x0 : 0 ≤ x) (x1 : x ≤ 255) (y0 : 0 ≤ y) (y1 : y ≤ 255) : HoldsB (w.alloc (.cells #[.int .u8 x, .int .u8 y] 5)) (some ⟨w.heap.size, 0, none⟩) 2 2 [x, y] := by
  refine ⟨rfl, by omega, by omega, by omega, BB.cons x0 x1 (BB.one y0 y1), fun e => by simp at e, fun _ => ⟨_, _, rfl, fun j hj => ?_⟩⟩
  obtain rfl | rfl : j = 0 ∨ j = 1 := by omega
  · simp [go_sem]
  · simp [go_sem]
theorem holds_four (w : World) (x y z t : Int) (h : BB [x, y, z, t]) : HoldsB (w.alloc (.cells #[.int .u8 x, .int .u8 y, .int .u8 z, .int .u8 t] 5)) (some ⟨w.heap.size, 0, none⟩) 4 4 [x, y, z, t] := by
  refine ⟨rfl, by omega, by omega, by omega, h, fun e => by simp at e, fun _ => ⟨_, _, rfl, fun j hj => ?_⟩⟩
  obtain rfl | rfl | rfl | rfl : j = 0 ∨ j = 1 ∨ j = 2 ∨ j = 3 := by omega
  · simp [go_sem]
  · simp [go_sem]
  · simp [go_sem]
  · simp [go_sem]

theorem ret2v {v : Value} {k : IntKind} {a x : Int} (h : x = a) : Ending.returned (.tuple #[v, .int k a]) = .returned (.tuple #[v, .int k x]) := by cases h; rfl

def gB (l : List Int) : List Int := if 60000 < l.length then [] else gd l
def gE (l : List Int) : Int := if 60000 < l.length then 3 else 0

end Go.Proofs.Ytpkifcoichjnbaa
