/-
  Contract: furlonglaw02.awake.
-/
import Derived.Test.YtmdhcigkhapolaaVG
namespace Go.Proofs.Ytmdhcigkhapolaa
open Go.RowKit Go.Shelf
set_option linter.unusedVariables false

theorem rop_awake : rop (1, 2) (3, 4) (1 + 3, 2 + 4) = ((4, 6), 0) := by decide
theorem shv_awake : shv 2 1 9 2 = (1, 2, 0) := by decide
theorem fit_awake : fitB 4 6 4 6 = true := by decide

set_option maxHeartbeats 2000000 in
theorem awake2_any (w : World) : Calls Try.prog 16 #[] w fun e w' => e = .returned (.bool true) ∧ Below w.heap.size w w' := by
  have ha := fun w => vadd_any 1 2 3 4 w
  have hs := fun w => vshare_any 2 1 9 2 w
  have hf := fun w => fits_any 4 6 4 6 w
  rw [rop_awake] at ha
  rw [shv_awake] at hs
  rw [fit_awake] at hf
  have HA := hid ha
  have HS := hid hs
  have HF := hid hf
  clear ha hs hf
  go_enter Try.func16, Try.ntmps16
  go_wp2_with fail
  refine (HA.out _).mono ?_
  rintro e w1 ⟨rfl, h1⟩
  go_wp2_with fail
  refine (HS.out _).mono ?_
  rintro e w2 ⟨rfl, h2⟩
  have a0 := keepc h2 (a := ⟨w1.heap.size, 0, none⟩) (v := .int .i64 4) (by simp [go_sem])
  have a1 := keepc h2 (a := ⟨w1.heap.size, 1, none⟩) (v := .int .i64 6) (by simp [go_sem])
  have hB2 : Below w.heap.size w w2 := Below.trans (h1.alloc h1.size _) (h2.mono (by have := h1.size; simp <;> omega))
  go_wp2_with fail
  refine (HF.out _).mono ?_
  rintro e w3 ⟨rfl, h3⟩
  have hB3 := hB2.trans (h3.mono hB2.size)
  go_wp2
  go_ret
  exact ⟨rfl, hB3⟩

end Go.Proofs.Ytmdhcigkhapolaa
