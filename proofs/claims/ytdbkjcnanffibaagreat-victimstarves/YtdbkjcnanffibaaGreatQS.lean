/-
  Contracts of the statements' own helpers: lists compared, numbers compared and sought.
-/
import Derived.Test.YtdbkjcnanffibaaGreatQL
import Derived.Test.YtdbkjcnanffibaaGreatQM
import Derived.Laws.StructEq
namespace Go.Proofs.YtdbkjcnanffibaaGreat
open Go.RowKit Go.Deep Go.Maps Go.Shelf
set_option linter.unusedVariables false

theorem neq_same (a b c d e f g : Int) (w : World) : Sem.run Tryz.prog (binOp BinOp.neq 38 (.agg #[.int .i64 a, .int .i64 b, .int .i64 c, .int .i64 d, .int .i64 e, .int .i64 f, .int .i64 g]) (.agg #[.int .i64 a, .int .i64 b, .int .i64 c, .int .i64 d, .int .i64 e, .int .i64 f, .int .i64 g])) w = .ok (.bool false) w := by
  have hS : Tryz.prog.underlying 38 = some (.struct (Tryz.prog.fieldsOf 38)) := by kernel_rfl
  have hp : Tryz.prog.stoodInHeld 38 = false := by kernel_rfl
  have hS2 : Tryz.prog.underlying 33 = some (.struct (Tryz.prog.fieldsOf 33)) := by kernel_rfl
  have hp2 : Tryz.prog.stoodInHeld 33 = false := by kernel_rfl
  have u3 := Tryz.underlying3
  have a3 := Tryz.isAgg3
  have z3 := Tryz.sizeOf3
  have u2 := Tryz.underlying2
  have a2 := Tryz.isAgg2
  have z2 := Tryz.sizeOf2
  have a24 := Tryz.isAgg33
  have z24 := Tryz.sizeOf33
  have e24 : ∀ (d : Nat) (x y : Int) (w : World), (Op.equalIn (d + 2) 33 (.agg #[.int .i64 x, .int .i64 y]) (.agg #[.int .i64 x, .int .i64 y])).run Tryz.prog w = .ok true w := fun d x y w => by
    rw [run_equalIn_agg w (d + 1) 33 _ _ hS2 hp2]
    simp only [Program.fieldsOf, Tryz.underlying33]
    go_simp
  rw [run_neq_struct, show (10000 : Nat) = 9999 + 1 from rfl, run_equalIn_agg w 9999 38 _ _ hS hp]
  simp only [Program.fieldsOf, Tryz.underlying38]
  go_simp

end Go.Proofs.YtdbkjcnanffibaaGreat
