/-
  Contracts: differences, products, narrowing of the document's numbers.
-/
import Derived.Test.YtdbkjcnanffibaaGreatWD
namespace Go.Proofs.YtdbkjcnanffibaaGreat
open Go.RowKit

/-- -1, 0, 1. -/
def ord (a b : Int) : Int := if a < b then -1 else if b < a then 1 else 0

theorem plus_hl (a b : Int) {h1 l1 h2 l2 : Int} (e1 : h1 = hi a) (e2 : l1 = lo a) (e3 : h2 = hi b) (e4 : l2 = lo b) (hr : I128 (a + b)) (w : World) :
    Calls Tryz.prog 68 #[.agg #[.int .i64 h1, .int .u64 l1], .agg #[.int .i64 h2, .int .u64 l2]] w fun e w' =>
      e = .returned (.agg #[.int .i64 (hi (a + b)), .int .u64 (lo (a + b))]) ∧ Below w.heap.size w w' := by
  subst e1 e2 e3 e4
  exact plus_any a b hr w

theorem not_i64 {n : Int} (h1 : -9223372036854775808 ≤ n) (h2 : n ≤ 9223372036854775807) : bits .xor .i64 (-1) n = -n - 1 := by
  show IntKind.i64.wrap ((BitVec.ofInt 64 (-1) ^^^ BitVec.ofInt 64 n).toNat : Int) = _
  rw [show BitVec.ofInt 64 (-1) = BitVec.allOnes 64 by decide, BitVec.allOnes_xor, BitVec.toNat_not, BitVec.toNat_ofInt]
  simp [IntKind.wrap, IntKind.bits, IntKind.signed]
  omega
theorem not_u64 {n : Int} (h1 : 0 ≤ n) (h2 : n ≤ 18446744073709551615) : bits .xor .u64 IntKind.u64.max n = 18446744073709551615 - n := by
  show IntKind.u64.wrap ((BitVec.ofInt 64 18446744073709551615 ^^^ BitVec.ofInt 64 n).toNat : Int) = _
  rw [show BitVec.ofInt 64 18446744073709551615 = BitVec.allOnes 64 by decide, BitVec.allOnes_xor, BitVec.toNat_not, BitVec.toNat_ofInt]
  simp [IntKind.wrap, IntKind.bits, IntKind.signed]
  omega

theorem neg_hl (b : Int) : hi (-b - 1) = -hi b - 1 ∧ lo (-b - 1) = 18446744073709551615 - lo b := by
  have := lo_bd b; have := hilo b
  exact ⟨hi_of (l := 18446744073709551615 - lo b) (by omega) (by omega) (by omega), lo_of (h := -hi b - 1) (by omega) (by omega) (by omega)⟩
theorem hl_one : hi 1 = 0 ∧ lo 1 = 1 := by decide
theorem hl_zero : hi 0 = 0 ∧ lo 0 = 0 := by decide

set_option maxHeartbeats 1000000 in
theorem minus_any (a b : Int) (hb : I128 b) (hr : I128 (a - b)) (hn : I128 (-b)) (w : World) :
    Calls Tryz.prog 85 #[.agg #[.int .i64 (hi a), .int .u64 (lo a)], .agg #[.int .i64 (hi b), .int .u64 (lo b)]] w fun e w' =>
      e = .returned (.agg #[.int .i64 (hi (a - b)), .int .u64 (lo (a - b))]) ∧ Below w.heap.size w w' := by
  obtain ⟨lb, lb'⟩ := lo_bd b
  obtain ⟨b1, b2⟩ := hb
  have x1 : ∀ s, s = (-1 : Int) → bits .xor .i64 s (hi b) = hi (-b - 1) := by rintro s rfl; rw [not_i64 b1 b2, (neg_hl b).1]
  have x2 : ∀ s, s = IntKind.u64.max → bits .xor .u64 s (lo b) = lo (-b - 1) := by rintro s rfl; rw [not_u64 lb lb', (neg_hl b).2]
  have X1 := hid x1
  have X2 := hid x2
  have R1 : Hid (-b - 1 + 1 = -b) := show -b - 1 + 1 = -b by omega
  have R2 : Hid (a + -b = a - b) := show a + -b = a - b by omega
  have R1' : Hid (I128 (-b - 1 + 1)) := by rw [R1.out]; exact hn
  have R2' : Hid (I128 (a + -b)) := by rw [R2.out]; exact hr
  clear x1 x2
  go_enter Tryz.func85, Tryz.ntmps85
  go_wp2_with fail
  go_region_with (go_at_call 68; first
    | ((with_reducible refine (plus_hl a (-b) rfl rfl rfl rfl (R2'.out) _).mono ?_); rintro e w' ⟨rfl, hq⟩; have hB2 : Below w.heap.size w w' := hB1.trans (hq.mono hB1.size); have d0 := keepc hq c0; have d1 := keepc hq c1; have g0 := keepf hq c0 f0; have g1 := keepf hq c1 f1; clear c0 c1 f0 f1)
    | ((with_reducible refine (plus_hl (-b - 1) 1 (X1.out _ ?_) (X2.out _ ?_) hl_one.1.symm hl_one.2.symm (R1'.out) _).mono ?_); rfl; rfl; rw [R1.out]; rintro e w' ⟨rfl, hq1⟩; have hB1 : Below w.heap.size w w' := Below.trans (by repeat (first | exact Below.refl _ _ | assumption | refine Below.alloc ?_ (by simp <;> omega) _ | refine Below.setCell ?_ (by simp <;> omega) _ | refine Below.drew ?_ | refine below_drewN ?_ _)) (hq1.mono (by simp <;> omega)); have a0 := keepc hq1 (a := ⟨w.heap.size, 0, none⟩) (v := .int .i64 (hi a)) (by simp [go_sem]); have a1 := keepc hq1 (a := ⟨w.heap.size, 1, none⟩) (v := .int .u64 (lo a)) (by simp [go_sem]); have c0 := keepc hq1 (a := ⟨w.heap.size + 1 + 1, 0, none⟩) (v := .int .i64 0) (by simp [go_sem]); have c1 := keepc hq1 (a := ⟨w.heap.size + 1 + 1, 1, none⟩) (v := .int .u64 0) (by simp [go_sem]); have f0 := keepf hq1 (a := ⟨w.heap.size + 1 + 1, 0, none⟩) (v := .int .i64 0) (by simp [go_sem]) (by simp [go_sem]); have f1 := keepf hq1 (a := ⟨w.heap.size + 1 + 1, 1, none⟩) (v := .int .u64 0) (by simp [go_sem]) (by simp [go_sem])))
  all_goals
    go_wp2
    rw [R2.out]
    exact bodyPost_ret (v := .agg #[.int .i64 (hi (a - b)), .int .u64 (lo (a - b))]) (by simp [results, Tryz.results85, go_sem, d0, d1]) rfl ⟨rfl, (hB2.setCell (by simp <;> omega) _).setCell (by simp <;> omega) _⟩

end Go.Proofs.YtdbkjcnanffibaaGreat
