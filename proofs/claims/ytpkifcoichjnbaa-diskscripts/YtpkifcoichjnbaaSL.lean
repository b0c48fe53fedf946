/-
  Contracts of strip: one byte put right.
-/
import Derived.Test.YtpkifcoichjnbaaSK
namespace Go.Proofs.Ytpkifcoichjnbaa
open Go.RowKit Go.Deep
set_option linter.unusedVariables false

/-- The byte with so much more; what puts the byte at a place right; the first place that is put right. -/
def opt (x u : Int) : Option Int := if 0 ≤ x + u ∧ x + u ≤ 255 then some (x + u) else if 0 ≤ x + u - 65521 ∧ x + u - 65521 ≤ 255 then some (x + u - 65521) else none
def hitB (l : List Int) (u v : Int) (i : Nat) : Option Int := if u * ((i : Int) + 1) % 65521 = v then opt (l[i]?.getD 0) u else none
def rp (l : List Int) (u v : Int) : Option (Nat × Int) := if u = 0 then none else (List.range l.length).findSome? fun i => (hitB l u v i).map fun y => (i, y)

theorem find_none {f : Nat → Option (Nat × Int)} {n : Nat} (h : ∀ i, i < n → f i = none) : (List.range n).findSome? f = none :=
  List.findSome?_eq_none_iff.2 fun i hi => h i (List.mem_range.1 hi)
theorem find_at {f : Nat → Option (Nat × Int)} {n k : Nat} {z : Nat × Int} (hk : k < n) (h : ∀ i, i < k → f i = none) (hz : f k = some z) : (List.range n).findSome? f = some z := by
  have e : List.range n = List.range k ++ (k :: (List.range (n - k - 1)).map (k + 1 + ·)) := by
    have : n = k + (1 + (n - k - 1)) := by omega
    rw [this, List.range_add, show k + (1 + (n - k - 1)) - k - 1 = n - k - 1 by omega]
    congr 1
    rw [Nat.add_comm 1, List.range_succ_eq_map]
    simp [Function.comp_def, Nat.add_comm, Nat.add_left_comm]
  rw [e, List.findSome?_append, find_none h]
  simp [hz]

theorem Row.cellAt {base : Nat} {w : World} {g n cap : Nat} {l : List Int} (h : Row base w g n cap l) (j : Nat) (hj : j < n) : w.cell? ⟨g, j, none⟩ = some (.int .u8 (l[j]?.getD 0)) := by
  have := h.1.cellAt j (by omega)
  rw [this, List.getElem?_map, List.getElem?_eq_getElem (show j < l.length by rw [h.len]; exact hj)]
  simp
theorem Row.frozenAt {base : Nat} {w : World} {g n cap : Nat} {l : List Int} (h : Row base w g n cap l) (j : Nat) : w.frozen? ⟨g, j, none⟩ = false := h.1.frozenAt j
theorem Row.stored {base : Nat} {w : World} {g n cap : Nat} {l : List Int} (h : Row base w g n cap l) (j : Nat) (y : Int) (y0 : 0 ≤ y) (y1 : y ≤ 255) : Row base (w.setCell ⟨g, j, none⟩ (.int .u8 y)) g n cap (l.set j y) := by
  refine ⟨by rw [List.map_set]; exact (h.1.stored j _).1, fun x hx => ?_⟩
  rcases List.mem_or_eq_of_mem_set hx with hx | rfl
  · exact h.2 x hx
  · exact ⟨y0, y1⟩

/-- What is answered, and what stands there then. -/
def rpI : Option (Nat × Int) → Int | some (i, _) => i | none => 0
def rpO : Option (Nat × Int) → Bool | some _ => true | none => false
def rpL (l : List Int) : Option (Nat × Int) → List Int | some (i, y) => l.set i y | none => l

theorem ret2b {a x : Int} {b y : Bool} (h : x = a) (g : y = b) : Ending.returned (.tuple #[.int .i64 a, .bool b]) = .returned (.tuple #[.int .i64 x, .bool y]) := by cases h; cases g; rfl

end Go.Proofs.Ytpkifcoichjnbaa
