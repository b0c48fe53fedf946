/-
  Contracts of furlongref10: a number is read.
-/
import Derived.Test.YtkjglpgjflkmbaaCM
namespace Go.Proofs.Ytkjglpgjflkmbaa
open Go.RowKit Go.Deep
set_option linter.unusedVariables false
set_option linter.unusedSimpArgs false

set_option maxRecDepth 100000 in
set_option maxHeartbeats 4000000 in
theorem dnum_any (a : Option Addr) (n c : Nat) (l : List Int) (A E : Int) (w : World) (hl : HoldsB w a n c l) (hp : I64 A) :
    Calls Try.prog 88 #[.agg #[.slice a n c, .int .i64 A, .int .i64 E]] w fun e w' => e = .returned (.tuple #[.agg #[.slice a n c, .int .i64 (tkI l A E).2.1, .int .i64 (tkI l A E).2.2], .int .i64 (tkI l A E).1]) ∧ Below w.heap.size w w' := by
  by_cases hE : E = 0
  · subst hE
    have T : Hid (tkI l A 0 = (zag (rd l A).1, (rd l A).2.1, (rd l A).2.2)) := by unfold Hid tkI; rw [if_pos rfl]
    have G := hid (fun W (H : HoldsB W a n c l) => getwhole_any a n c l A W H hp)
    have HL := hid hl
    clear hl hp
    go_enter Try.func88, Try.ntmps88
    go_upto_region 1 with fail
    have B0 := ((Below.refl w.heap.size w).alloc (Nat.le_refl _) (.cells #[.slice a n c, .int .i64 A, .int .i64 0] 102)).alloc (by simp) (.cells #[.slice none 0 0, .int .i64 0, .int .i64 0] 102)
    have HW := hid (HL.out.below B0)
    go_wp2_with fail
    with_reducible refine (G.out _ HW.out).mono ?_
    rintro e W1 ⟨rfl, rfl⟩
    clear G HW
    generalize hA : (rd l A).2.1 = A1 at *
    generalize hX : (rd l A).2.2 = E1 at *
    generalize hZ : zag (rd l A).1 = X at *
    have EA := hid hA
    have EX := hid hX
    have EZ := hid hZ
    clear hA hX hZ
    go_wp2_with fail
    refine bodyPost_ret (v := .tuple #[.agg #[.slice a n c, .int .i64 A1, .int .i64 E1], .int .i64 X]) (by simp [results, Try.results88, go_sem]) rfl ⟨by rw [T.out], (by repeat (first | exact Below.refl _ _ | assumption | refine Below.alloc ?_ (by simp <;> omega) _ | refine Below.setCell ?_ (by simp <;> omega) _ | refine Below.drew ?_ | refine below_drewN ?_ _))⟩
  · have T : Hid (tkI l A E = (0, A, E)) := by unfold Hid tkI; rw [if_neg hE]
    clear hl hp
    go_enter Try.func88, Try.ntmps88
    go_wp2_with fail
    refine bodyPost_ret (v := .tuple #[.agg #[.slice a n c, .int .i64 A, .int .i64 E], .int .i64 0]) (by simp [results, Try.results88, go_sem]) rfl ⟨by rw [T.out], (by repeat (first | exact Below.refl _ _ | assumption | refine Below.alloc ?_ (by simp <;> omega) _ | refine Below.setCell ?_ (by simp <;> omega) _ | refine Below.drew ?_ | refine below_drewN ?_ _))⟩
end Go.Proofs.Ytkjglpgjflkmbaa
