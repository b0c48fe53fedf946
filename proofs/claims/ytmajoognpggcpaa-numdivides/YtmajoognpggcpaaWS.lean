/-
  Contract: a product divided, by the document, where the quotient leaves int64.
-/
import Derived.Test.YtmajoognpggcpaaWP
import Derived.Deep.RegionWith
namespace Go.Proofs.Ytmajoognpggcpaa
open Go.RowKit
set_option linter.unusedVariables false

theorem I64_min : I64 (-9223372036854775808) := by unfold I64; omega
theorem I64_max : I64 9223372036854775807 := by unfold I64; omega

set_option maxHeartbeats 1000000 in
theorem rmd_small (a b c : Int) (hc : c < 1) (w : World) :
    Calls Try.prog 25 #[.int .i64 a, .int .i64 b, .int .i64 c] w fun e w' => e = .returned (.tuple #[.int .i64 0, .int .i64 1]) ∧ Below w.heap.size w w' := by
  go_enter Try.func25, Try.ntmps25
  go_wp2
  go_ret2
  exact ⟨rfl, Below.refl _ _⟩

set_option maxRecDepth 100000 in
set_option maxHeartbeats 4000000 in
theorem rmd_high (a b c p : Int) (ha : I64 a) (hb : I64 b) (hc : 1 ≤ c) (hc' : c ≤ 9223372036854775807) (hp : Hid (a * b = p)) (w : World)
    (r1 : -9223372036854775808 * c ≤ p) (r2 : 9223372036854775807 * c + c ≤ p) :
    Calls Try.prog 25 #[.int .i64 a, .int .i64 b, .int .i64 c] w fun e w' => e = .returned (.tuple #[.int .i64 0, .int .i64 2]) ∧ Below w.heap.size w w' := by
  have TP := fun w => times_any a b ha hb w
  rw [hp.out] at TP
  have TP := hid TP
  rename_i TP0
  clear TP0 hp
  have hcI : I64 c := ⟨by omega, hc'⟩
  have I1 : I128 (9223372036854775807 * c + c) := by unfold I128 hi; omega
  have t1 : decide (p < -9223372036854775808 * c) = false := by simp; omega
  have t2 : decide (p < 9223372036854775807 * c + c) = false := by simp; omega
  go_enter Try.func25, Try.ntmps25
  go_wp2_with fail
  refine (TP.out _).mono ?_
  rintro e w1 ⟨rfl, h1⟩
  have c0 : (w1.alloc (Obj.cells #[Value.int IntKind.i64 (hi p), Value.int IntKind.u64 (lo p)] 60)).cell? ⟨w1.heap.size, 0, none⟩ = some (.int .i64 (hi p)) := by simp [go_sem]
  have c1 : (w1.alloc (Obj.cells #[Value.int IntKind.i64 (hi p), Value.int IntKind.u64 (lo p)] 60)).cell? ⟨w1.heap.size, 1, none⟩ = some (.int .u64 (lo p)) := by simp [go_sem]
  have hB : Below w.heap.size w (w1.alloc (Obj.cells #[Value.int IntKind.i64 (hi p), Value.int IntKind.u64 (lo p)] 60)) := h1.alloc h1.size _
  have C0 := hid c0
  have C1 := hid c1
  have HB := hid hB
  clear c0 c1 hB
  go_upto_region 4 with fail
  generalize hW : w1.alloc (Obj.cells #[Value.int IntKind.i64 (hi p), Value.int IntKind.u64 (lo p)] 60) = W at *
  generalize w1.heap.size = B at *
  clear hW h1
  have c0 := C0.out
  have c1 := C1.out
  have D0 : Hid (W.drew.cell? ⟨B, 0, none⟩ = some (.int .i64 (hi p))) := c0
  have D1 : Hid (W.drew.cell? ⟨B, 1, none⟩ = some (.int .u64 (lo p))) := c1
  have hB : Below w.heap.size w W.drew := HB.out.drew
  go_region_with (first
    | (go_at_call 49; first
        | ((with_reducible refine (times_any (-9223372036854775808) c I64_min hcI _).mono ?_); rintro e w' ⟨rfl, hq⟩; have c0 := keepc hq D0.out; have c1 := keepc hq D1.out; have hB := hB.trans (hq.mono hB.size))
        | ((with_reducible refine (times_any 9223372036854775807 c I64_max hcI _).mono ?_); rintro e w' ⟨rfl, hq⟩; have c0 := keepc hq c0; have c1 := keepc hq c1; have hB := hB.trans (hq.mono hB.size)))
    | (go_at_call 47; refine (of_any c hcI _).mono ?_; rintro e w' ⟨rfl, hq⟩; have c0 := keepc hq c0; have c1 := keepc hq c1; have hB := hB.trans (hq.mono hB.size))
    | (go_at_call 46; refine (plus_any (9223372036854775807 * c) c I1 _).mono ?_; rintro e w' ⟨rfl, hq⟩; have c0 := keepc hq c0; have c1 := keepc hq c1; have hB := hB.trans (hq.mono hB.size))
    | (go_at_call 54; first
        | ((with_reducible refine (less_any p (-9223372036854775808 * c) _).mono ?_); rintro e w' ⟨rfl, hq⟩; have c0 := keepc hq c0; have c1 := keepc hq c1; have hB := hB.trans (hq.mono hB.size))
        | ((with_reducible refine (less_any p (9223372036854775807 * c + c) _).mono ?_); rintro e w' ⟨rfl, hq⟩; have c0 := keepc hq c0; have c1 := keepc hq c1; have hB := hB.trans (hq.mono hB.size))))
  all_goals
    go_wp2
    go_ret2
    exact ⟨rfl, hB⟩

end Go.Proofs.Ytmajoognpggcpaa
