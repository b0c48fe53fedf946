/-
  Contracts of furlongref10: two tasks are alike.
-/
import Derived.Test.YtkjglpgjflkmbaaCZA
import Derived.Test.YtkjglpgjflkmbaaSE
import Derived.Laws.StructEq
namespace Go.Proofs.Ytkjglpgjflkmbaa
open Go.RowKit Go.Deep Go.Maps
set_option linter.unusedVariables false
set_option linter.unusedSimpArgs false

theorem eq_vec (a b : Int) (w : World) : Sem.run Try.prog (binOp BinOp.eql 23 (.agg #[.int .i64 a, .int .i64 b]) (.agg #[.int .i64 a, .int .i64 b])) w = .ok (.bool true) w := by
  have hS : Try.prog.underlying 23 = some (.struct (Try.prog.fieldsOf 23)) := by kernel_rfl
  have hp : Try.prog.stoodInHeld 23 = false := by kernel_rfl
  have u2 := Try.underlying2
  have a2 := Try.isAgg2
  have z2 := Try.sizeOf2
  rw [run_eql_struct, show (10000 : Nat) = 9999 + 1 from rfl, run_equalIn_agg w 9999 23 _ _ hS hp]
  simp only [Program.fieldsOf, Try.underlying23]
  go_simp

set_option maxRecDepth 100000 in
set_option maxHeartbeats 4000000 in
theorem stask_any (t1 t2 c m wk : Int) (ta tb : Option Addr) (tn ca cb : Nat) (tk : List Int) (st : Int) (w : World) (h1 : HoldsN w ta tn ca tk) (h2 : HoldsN w tb tn cb tk) (hm : tn ≤ 140737488355328) :
    Calls Try.prog 38 #[.agg #[.int .i64 t1, .int .i64 t2, .int .i64 c, .int .i64 m, .int .i64 wk, .slice ta tn ca, .int .i64 st], .agg #[.int .i64 t1, .int .i64 t2, .int .i64 c, .int .i64 m, .int .i64 wk, .slice tb tn cb, .int .i64 st]] w fun e w' => e = .returned (.bool true) ∧ Below w.heap.size w w' := by
  have EV := eq_vec c m
  go_enter Try.func38, Try.ntmps38
  go_upto_region 1 with fail
  have B0 := ((Below.refl w.heap.size w).alloc (Nat.le_refl _) (.cells #[.int .i64 t1, .int .i64 t2, .int .i64 c, .int .i64 m, .int .i64 wk, .slice ta tn ca, .int .i64 st] 30)).alloc (by simp) (.cells #[.int .i64 t1, .int .i64 t2, .int .i64 c, .int .i64 m, .int .i64 wk, .slice tb tn cb, .int .i64 st] 30)
  have C := hid (ints_any ta tb tn ca cb tk _ (h1.below B0) (h2.below B0) hm)
  clear h1 h2
  go_wp2_with fail
  with_reducible refine C.out.mono ?_
  rintro e W1 ⟨rfl, b1⟩
  clear C
  go_wp2_with fail
  go_ret
  exact ⟨rfl, B0.trans (b1.mono (by simp <;> omega))⟩
end Go.Proofs.Ytkjglpgjflkmbaa
