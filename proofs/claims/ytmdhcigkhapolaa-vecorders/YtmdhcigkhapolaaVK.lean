/-
  Contract of furlongref02: Share.
-/
import Derived.Test.YtmdhcigkhapolaaVJ
namespace Go.Proofs.Ytmdhcigkhapolaa
open Go.RowKit Go.Shelf
set_option linter.unusedVariables false

set_option maxHeartbeats 40000000 in
theorem rshare_yes (c m p q C0 C1 M0 M1 : Int) (w : World)
    (P1 : Hid (∀ w : World, Calls Try.prog 74 #[.int .i64 c, .int .i64 p] w fun e w' => e = .returned (.agg #[.int .i64 C0, .int .i64 C1]) ∧ w.alloc (.cells #[.int .i64 C0, .int .i64 C1] 91) = w'))
    (P2 : Hid (∀ w : World, Calls Try.prog 74 #[.int .i64 m, .int .i64 q] w fun e w' => e = .returned (.agg #[.int .i64 M0, .int .i64 M1]) ∧ w.alloc (.cells #[.int .i64 M0, .int .i64 M1] 91) = w'))
    (AB : Hid (∀ w : World, Calls Try.prog 75 #[.agg #[.int .i64 M0, .int .i64 M1], .agg #[.int .i64 C0, .int .i64 C1]] w fun e w' => e = .returned (.bool true) ∧ Below w.heap.size w w')) :
    Calls Try.prog 64 #[.agg #[.int .i64 c, .int .i64 m], .agg #[.int .i64 p, .int .i64 q]] w fun e w' => e = .returned (.agg #[.int .i64 M0, .int .i64 M1]) ∧ Below w.heap.size w w' := by
  go_enter Try.func64, Try.ntmps64
  go_upto_region 1 with fail
  go_region_held3 (fun w' => w'.cell? ⟨w.heap.size, 0, none⟩ = some (.int .i64 c) ∧ w'.cell? ⟨w.heap.size, 1, none⟩ = some (.int .i64 m) ∧ w'.cell? ⟨w.heap.size + 1, 0, none⟩ = some (.int .i64 p) ∧ w'.cell? ⟨w.heap.size + 1, 1, none⟩ = some (.int .i64 q)) (simp [go_sem])
    (first
    | (go_at_call 74; first | ((with_reducible refine (P1.out _).mono ?_); rintro e w' ⟨rfl, rfl⟩) | ((with_reducible refine (P2.out _).mono ?_); rintro e w' ⟨rfl, rfl⟩)))
  all_goals
    go_wp2_with fail
    refine (AB.out _).mono ?_
    rintro e w3 ⟨rfl, h3⟩
    have k3 := h3.cell (p := ⟨w.heap.size + 1 + 1 + 1, 0, none⟩) (by simp <;> omega)
    simp [go_sem] at k3
    have k3' := h3.cell (p := ⟨w.heap.size + 1 + 1 + 1, 1, none⟩) (by simp <;> omega)
    simp [go_sem] at k3'
    have k4 := h3.cell (p := ⟨w.heap.size + 1 + 1 + 1 + 1, 0, none⟩) (by simp <;> omega)
    simp [go_sem] at k4
    have k4' := h3.cell (p := ⟨w.heap.size + 1 + 1 + 1 + 1, 1, none⟩) (by simp <;> omega)
    simp [go_sem] at k4'
    have k5 := h3.cell (p := ⟨w.heap.size + 1 + 1 + 1 + 1 + 1, 0, none⟩) (by simp <;> omega)
    simp [go_sem] at k5
    have k5' := h3.cell (p := ⟨w.heap.size + 1 + 1 + 1 + 1 + 1, 1, none⟩) (by simp <;> omega)
    simp [go_sem] at k5'
    have k6 := h3.cell (p := ⟨w.heap.size + 1 + 1 + 1 + 1 + 1 + 1, 0, none⟩) (by simp <;> omega)
    simp [go_sem] at k6
    have k6' := h3.cell (p := ⟨w.heap.size + 1 + 1 + 1 + 1 + 1 + 1, 1, none⟩) (by simp <;> omega)
    simp [go_sem] at k6'
    have f0 := keepf h3 (a := ⟨w.heap.size + 1 + 1, 0, none⟩) (v := .int .i64 0) (by simp [go_sem]) (by simp [go_sem])
    have r0 := keepc h3 (a := ⟨w.heap.size + 1 + 1, 0, none⟩) (v := .int .i64 0) (by simp [go_sem])
    have f1 := keepf h3 (a := ⟨w.heap.size + 1 + 1, 1, none⟩) (v := .int .i64 0) (by simp [go_sem]) (by simp [go_sem])
    have r1 := keepc h3 (a := ⟨w.heap.size + 1 + 1, 1, none⟩) (v := .int .i64 0) (by simp [go_sem])
    have hB3 : Below w.heap.size w w3 := Below.trans (by repeat (first | exact Below.refl _ _ | assumption | refine Below.alloc ?_ (by simp <;> omega) _ | refine Below.setCell ?_ (by simp <;> omega) _ | refine Below.drew ?_ | refine below_drewN ?_ _)) (h3.mono (by simp <;> omega))
    clear h3
    go_wp2
    exact bodyPost_ret (v := .agg #[.int .i64 M0, .int .i64 M1]) (by simp [results, Try.results64, go_sem, r0, r1]) rfl ⟨rfl, (hB3.setCell (by simp <;> omega) _).setCell (by simp <;> omega) _⟩

set_option maxHeartbeats 40000000 in
theorem rshare_no (c m p q C0 C1 M0 M1 : Int) (w : World)
    (P1 : Hid (∀ w : World, Calls Try.prog 74 #[.int .i64 c, .int .i64 p] w fun e w' => e = .returned (.agg #[.int .i64 C0, .int .i64 C1]) ∧ w.alloc (.cells #[.int .i64 C0, .int .i64 C1] 91) = w'))
    (P2 : Hid (∀ w : World, Calls Try.prog 74 #[.int .i64 m, .int .i64 q] w fun e w' => e = .returned (.agg #[.int .i64 M0, .int .i64 M1]) ∧ w.alloc (.cells #[.int .i64 M0, .int .i64 M1] 91) = w'))
    (AB : Hid (∀ w : World, Calls Try.prog 75 #[.agg #[.int .i64 M0, .int .i64 M1], .agg #[.int .i64 C0, .int .i64 C1]] w fun e w' => e = .returned (.bool false) ∧ Below w.heap.size w w')) :
    Calls Try.prog 64 #[.agg #[.int .i64 c, .int .i64 m], .agg #[.int .i64 p, .int .i64 q]] w fun e w' => e = .returned (.agg #[.int .i64 C0, .int .i64 C1]) ∧ Below w.heap.size w w' := by
  go_enter Try.func64, Try.ntmps64
  go_upto_region 1 with fail
  go_region_held3 (fun w' => w'.cell? ⟨w.heap.size, 0, none⟩ = some (.int .i64 c) ∧ w'.cell? ⟨w.heap.size, 1, none⟩ = some (.int .i64 m) ∧ w'.cell? ⟨w.heap.size + 1, 0, none⟩ = some (.int .i64 p) ∧ w'.cell? ⟨w.heap.size + 1, 1, none⟩ = some (.int .i64 q)) (simp [go_sem])
    (first
    | (go_at_call 74; first | ((with_reducible refine (P1.out _).mono ?_); rintro e w' ⟨rfl, rfl⟩) | ((with_reducible refine (P2.out _).mono ?_); rintro e w' ⟨rfl, rfl⟩)))
  all_goals
    go_wp2_with fail
    refine (AB.out _).mono ?_
    rintro e w3 ⟨rfl, h3⟩
    have k3 := h3.cell (p := ⟨w.heap.size + 1 + 1 + 1, 0, none⟩) (by simp <;> omega)
    simp [go_sem] at k3
    have k3' := h3.cell (p := ⟨w.heap.size + 1 + 1 + 1, 1, none⟩) (by simp <;> omega)
    simp [go_sem] at k3'
    have k4 := h3.cell (p := ⟨w.heap.size + 1 + 1 + 1 + 1, 0, none⟩) (by simp <;> omega)
    simp [go_sem] at k4
    have k4' := h3.cell (p := ⟨w.heap.size + 1 + 1 + 1 + 1, 1, none⟩) (by simp <;> omega)
    simp [go_sem] at k4'
    have k5 := h3.cell (p := ⟨w.heap.size + 1 + 1 + 1 + 1 + 1, 0, none⟩) (by simp <;> omega)
    simp [go_sem] at k5
    have k5' := h3.cell (p := ⟨w.heap.size + 1 + 1 + 1 + 1 + 1, 1, none⟩) (by simp <;> omega)
    simp [go_sem] at k5'
    have k6 := h3.cell (p := ⟨w.heap.size + 1 + 1 + 1 + 1 + 1 + 1, 0, none⟩) (by simp <;> omega)
    simp [go_sem] at k6
    have k6' := h3.cell (p := ⟨w.heap.size + 1 + 1 + 1 + 1 + 1 + 1, 1, none⟩) (by simp <;> omega)
    simp [go_sem] at k6'
    have f0 := keepf h3 (a := ⟨w.heap.size + 1 + 1, 0, none⟩) (v := .int .i64 0) (by simp [go_sem]) (by simp [go_sem])
    have r0 := keepc h3 (a := ⟨w.heap.size + 1 + 1, 0, none⟩) (v := .int .i64 0) (by simp [go_sem])
    have f1 := keepf h3 (a := ⟨w.heap.size + 1 + 1, 1, none⟩) (v := .int .i64 0) (by simp [go_sem]) (by simp [go_sem])
    have r1 := keepc h3 (a := ⟨w.heap.size + 1 + 1, 1, none⟩) (v := .int .i64 0) (by simp [go_sem])
    have hB3 : Below w.heap.size w w3 := Below.trans (by repeat (first | exact Below.refl _ _ | assumption | refine Below.alloc ?_ (by simp <;> omega) _ | refine Below.setCell ?_ (by simp <;> omega) _ | refine Below.drew ?_ | refine below_drewN ?_ _)) (h3.mono (by simp <;> omega))
    clear h3
    go_wp2
    exact bodyPost_ret (v := .agg #[.int .i64 C0, .int .i64 C1]) (by simp [results, Try.results64, go_sem, r0, r1]) rfl ⟨rfl, (hB3.setCell (by simp <;> omega) _).setCell (by simp <;> omega) _⟩

end Go.Proofs.Ytmdhcigkhapolaa
