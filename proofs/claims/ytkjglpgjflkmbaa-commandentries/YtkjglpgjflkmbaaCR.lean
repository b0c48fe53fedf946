/-
  Contracts of furlongref10: what was read, to its end.
-/
import Derived.Test.YtkjglpgjflkmbaaCQ
namespace Go.Proofs.Ytkjglpgjflkmbaa
open Go.RowKit Go.Deep
set_option linter.unusedVariables false
set_option linter.unusedSimpArgs false

/-- The place of the fault, and the error. -/
def endT (n : Nat) (A E : Int) : Int × Int := if E = 0 then (if A < n then (A, 7) else (0, 0)) else (A, E)
set_option maxRecDepth 100000 in
set_option maxHeartbeats 4000000 in
theorem dend_any (a : Option Addr) (n c : Nat) (A E : Int) (w : World) :
    Calls Try.prog 57 #[.agg #[.slice a n c, .int .i64 A, .int .i64 E]] w fun e w' => e = .returned (.tuple #[.int .i64 (endT n A E).1, .int .i64 (endT n A E).2]) ∧ Below w.heap.size w w' := by
  by_cases hE : E = 0
  · subst hE
    by_cases hA : A < (n : Int)
    · have T : Hid (endT n A 0 = (A, 7)) := by unfold Hid endT; rw [if_pos rfl, if_pos hA]
      have hA1 : decide (A < (n : Int)) = true := by simp; omega
      go_enter Try.func57, Try.ntmps57
      go_wp2_with fail
      refine bodyPost_ret (v := .tuple #[.int .i64 A, .int .i64 7]) (by simp [results, Try.results57, go_sem]) rfl ⟨by rw [T.out], (by repeat (first | exact Below.refl _ _ | assumption | refine Below.alloc ?_ (by simp <;> omega) _ | refine Below.setCell ?_ (by simp <;> omega) _ | refine Below.drew ?_ | refine below_drewN ?_ _))⟩
    · have T : Hid (endT n A 0 = (0, 0)) := by unfold Hid endT; rw [if_pos rfl, if_neg hA]
      have hA1 : decide (A < (n : Int)) = false := by simp; omega
      go_enter Try.func57, Try.ntmps57
      go_wp2_with fail
      refine bodyPost_ret (v := .tuple #[.int .i64 0, .int .i64 0]) (by simp [results, Try.results57, go_sem]) rfl ⟨by rw [T.out], (by repeat (first | exact Below.refl _ _ | assumption | refine Below.alloc ?_ (by simp <;> omega) _ | refine Below.setCell ?_ (by simp <;> omega) _ | refine Below.drew ?_ | refine below_drewN ?_ _))⟩
  · have T : Hid (endT n A E = (A, E)) := by unfold Hid endT; rw [if_neg hE]
    go_enter Try.func57, Try.ntmps57
    go_upto_region 2 with fail
    have y1 : (w.alloc (.cells #[.slice a n c, .int .i64 A, .int .i64 E] 102)).cell? ⟨w.heap.size, 1, none⟩ = some (.int .i64 A) := by simp [go_sem]
    have y2 : (w.alloc (.cells #[.slice a n c, .int .i64 A, .int .i64 E] 102)).cell? ⟨w.heap.size, 2, none⟩ = some (.int .i64 E) := by simp [go_sem]
    go_region
    all_goals (try go_wp2_with fail)
    all_goals (refine bodyPost_ret (v := .tuple #[.int .i64 A, .int .i64 E]) (by simp [results, Try.results57, go_sem]) rfl ⟨by rw [T.out], (by repeat (first | exact Below.refl _ _ | assumption | refine Below.alloc ?_ (by simp <;> omega) _ | refine Below.setCell ?_ (by simp <;> omega) _ | refine Below.drew ?_ | refine below_drewN ?_ _))⟩)
end Go.Proofs.Ytkjglpgjflkmbaa
