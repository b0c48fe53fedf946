/-
  Contracts of queue: Leaves, Children, Path, Below.
-/
import Derived.Test.YtdbkjcnanffibaaQK
import Derived.Test.YtdbkjcnanffibaaQI
import Derived.Test.YtdbkjcnanffibaaQJ
import Derived.Test.YtdbkjcnanffibaaQL
namespace Go.Proofs.Ytdbkjcnanffibaa
open Go.RowKit Go.Deep Go.Maps Go.Shelf
set_option linter.unusedVariables false

theorem filter_len {l : List Qu} {p : Fin l.length → Bool} (h : l.length ≤ 64) : ((List.finRange l.length).filter p).length ≤ 64 := by
  have := List.length_filter_le p (List.finRange l.length)
  simp at this
  omega

/-- Ids at places. -/
def idsAt (l : List Qu) (ps : List (Fin l.length)) : List Int := ps.map (fun i => (qa l i.val).id)
/-- An answer of numbers: nothing, or new memory. -/
def AnsN (base : Nat) (w : World) (v : Value) (m : List Int) : Prop := OwnN base w v m.length m

theorem gives_children {lb off len cap mb : Nat} {l : List Qu} {id : Int} {w : World} (hT : Tree w lb off len cap mb l) :
    Gives l 83 #[.pointer (some ⟨w.heap.size, 0, none⟩), .pointer (some ⟨w.heap.size + 1, 0, none⟩)] (kids l id) ((w.alloc (.cells #[.slice (some ⟨lb, off, none⟩) len cap, .map (some mb)] 73)).alloc (.cells #[.int .i64 id] 3)) := by
  refine ⟨enters_of Try.func83 (by kernel_rfl) rfl, fun W X N hW hX hN hNW => ?_⟩
  have hlb := hT.row.1
  simp only [World.size_alloc] at hW hX hN
  have hB : Below w.heap.size w W := Below.trans (by repeat (first | exact Below.refl _ _ | assumption | refine Below.alloc ?_ (by simp <;> omega) _ | refine Below.setCell ?_ (by simp <;> omega) _ | refine Below.drew ?_ | refine below_drewN ?_ _)) (hW.mono (by omega))
  refine children_stops 4 (by omega) X N w.heap.size (w.heap.size + 1) lb off len cap mb l id W (hT.below hB) ?_ ?_ (by omega) (by omega) (by omega) (by omega) (by omega) (by omega) hNW
  · rw [hW.cell (p := ⟨w.heap.size, 0, none⟩) (by show w.heap.size < _; omega)]; simp [go_sem]
  · rw [hW.cell (p := ⟨w.heap.size + 1, 0, none⟩) (by show w.heap.size + 1 < _; omega)]; simp [go_sem]
theorem gives_up {lb off len cap mb : Nat} {l : List Qu} {id : Int} {w : World} (hT : Tree w lb off len cap mb l) (hi : pl l id < l.length) :
    Gives l 59 #[.pointer (some ⟨w.heap.size + 1, 0, none⟩), .pointer (some ⟨w.heap.size, 0, none⟩)] (pthF l (pl l id) hi) ((w.alloc (.cells #[.slice (some ⟨lb, off, none⟩) len cap, .map (some mb)] 73)).alloc (.cells #[.int .i64 id] 3)) := by
  refine ⟨enters_of Try.func59 (by kernel_rfl) rfl, fun W X N hW hX hN hNW => ?_⟩
  have hlb := hT.row.1
  have hmb := hT.map.lt
  simp only [World.size_alloc] at hW hX hN
  have hB : Below w.heap.size w W := Below.trans (by repeat (first | exact Below.refl _ _ | assumption | refine Below.alloc ?_ (by simp <;> omega) _ | refine Below.setCell ?_ (by simp <;> omega) _ | refine Below.drew ?_ | refine below_drewN ?_ _)) (hW.mono (by omega))
  refine up_stops 4 (by omega) X N w.heap.size (w.heap.size + 1) lb off len cap mb l id W (hT.below hB) hi ?_ ?_ ?_ (by omega) (by omega) (by omega) (by omega) (by omega) (by omega) (by omega) (by omega) hNW
  · rw [hW.cell (p := ⟨w.heap.size, 0, none⟩) (by show w.heap.size < _; omega)]; simp [go_sem]
  · rw [hW.cell (p := ⟨w.heap.size, 1, none⟩) (by show w.heap.size < _; omega)]; simp [go_sem]
  · rw [hW.cell (p := ⟨w.heap.size + 1, 0, none⟩) (by show w.heap.size + 1 < _; omega)]; simp [go_sem]
end Go.Proofs.Ytdbkjcnanffibaa
