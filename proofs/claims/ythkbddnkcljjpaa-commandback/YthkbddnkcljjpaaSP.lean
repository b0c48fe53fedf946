/-
  Contracts of strip: Mend of any bytes; the calls whose answers are fixed.
-/
import Derived.Test.YthkbddnkcljjpaaSO
namespace Go.Proofs.Ythkbddnkcljjpaa
open Go.RowKit Go.Deep
set_option linter.unusedVariables false
/-- A slice literal. -/
theorem own_arr (w : World) (l : List Int) (cs : Array Value) (n : Nat) (hn : l.length = n) (hcs : cs.toList = l.map (Value.int .u8)) (hb : BB l) (hm : n ≤ 1000) : Own w.heap.size (w.alloc (.cells cs 5)) (.slice (some ⟨w.heap.size, 0, none⟩) n n) n l := by
  refine ⟨?_, hb⟩
  rw [← hcs]
  refine World.ownsRow_lit w cs n (Nat.le_refl _) (by unfold maxLen; omega) ?_
  have := congrArg List.length hcs
  simp at this
  omega

theorem aw_read (a : Option Addr) (w : World) (h : HoldsB w a 2 2 [193, 0]) :
    Calls Try.prog 121 #[.slice a 2 2, .int .i64 0] w fun e w' => e = .returned (.tuple #[.int .u64 0, .int .i64 2, .int .i64 5]) ∧ w = w' := by
  have K := read_any a 2 2 _ 0 w h ⟨by omega, by omega⟩
  have e1 : rd [193, 0] 0 = (0, 2, 5) := by decide
  rw [e1] at K
  exact K
theorem aw_lay (a : Option Addr) (w : World) (h : HoldsB w a 1 1 [7]) :
    Calls Try.prog 119 #[.slice a 1 1, .int .u64 300] w fun e w' => ∃ g, e = .returned (.slice (some ⟨g, 0, none⟩) 3 3) ∧ Row w.heap.size w' g 3 3 [7, 192, 108] ∧ Below w.heap.size w w' := by
  have K := lay_any a 1 1 _ 300 w h (by omega) (by omega) (by omega)
  have e1 : shelf 300 = 1 := by decide
  have e2 : [7] ++ numB 300 = [7, 192, 108] := by decide
  rw [e1, e2] at K
  exact K
theorem aw_size (w : World) : Calls Try.prog 132 #[.int .u64 18446744073709551615] w fun e w' => e = .returned (.int .i64 9) ∧ w = w' := by
  have K := size_any' 18446744073709551615 (by omega) (by omega) w
  have e1 : shelf 18446744073709551615 = 8 := by decide
  rw [e1] at K
  exact K

theorem holds_arr (l : List Int) (cs : Array Value) (n : Nat) (hn : l.length = n) (hcs : cs.toList = l.map (Value.int .u8)) (hb : BB l) (hm : n ≤ 1000) (w : World) (k : Nat) (hk : k = w.heap.size) : HoldsB (w.alloc (.cells cs 5)) (some ⟨k, 0, none⟩) n n l := by
  subst hk
  exact (own_arr w l cs n hn hcs hb hm).holds
theorem BBd {l : List Int} (h : l.all (fun x => decide (0 ≤ x ∧ x ≤ 255)) = true) : BB l := fun x hx => by simpa using List.all_eq_true.1 h x hx

end Go.Proofs.Ythkbddnkcljjpaa
