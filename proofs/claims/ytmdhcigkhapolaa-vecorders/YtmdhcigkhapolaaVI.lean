/-
  Contracts of furlongref02: Add, Sub, part, above.
-/
import Derived.Test.YtmdhcigkhapolaaVH
import Derived.Test.YtmdhcigkhapolaaWF
namespace Go.Proofs.Ytmdhcigkhapolaa
open Go.RowKit Go.Shelf
set_option linter.unusedVariables false

theorem chks_two_ok {a b : Int × Int} (h : [a, b].all okv = true) : chks [a, b] = 0 := by unfold chks; rw [if_pos h]
theorem chks_two_no {a b : Int × Int} (h : [a, b].all okv = false) : chks [a, b] = 1 := by unfold chks; rw [h]; rfl
theorem rin_good {s : Int × Int} (h : okv s = true) : rin s = (s, 0) := by unfold rin; rw [if_pos h]
theorem rin_over {s : Int × Int} (h : okv s = false) : rin s = ((0, 0), 2) := by unfold rin; rw [h]; rfl

set_option maxHeartbeats 1000000 in
theorem part_any (p q : Int) (w : World) :
    Calls Try.prog 74 #[.int .i64 p, .int .i64 q] w fun e w' => e = .returned (.agg #[.int .i64 (shr p q).1, .int .i64 (shr p q).2]) ∧ Below w.heap.size w w' := by
  by_cases h1 : 0 < q
  · have t1 : decide (0 < q) = true := by simp; omega
    have E : Hid (shr p q = (p, q)) := by show _ = _; unfold shr; rw [if_pos h1]
    go_enter Try.func74, Try.ntmps74
    go_wp2
    rw [E.out]
    exact bodyPost_ret (v := .agg #[.int .i64 p, .int .i64 q]) (by simp [results, Try.results74, go_sem]) rfl ⟨rfl, (by repeat (first | exact Below.refl _ _ | assumption | refine Below.alloc ?_ (by simp <;> omega) _ | refine Below.setCell ?_ (by simp <;> omega) _ | refine Below.drew ?_ | refine below_drewN ?_ _))⟩
  · have t1 : decide (0 < q) = false := by simp; omega
    by_cases h2 : 0 < p
    · have t2 : decide (0 < p) = true := by simp; omega
      have E : Hid (shr p q = (1, 0)) := by show _ = _; unfold shr; rw [if_neg h1, if_pos h2]
      go_enter Try.func74, Try.ntmps74
      go_wp2
      rw [E.out]
      exact bodyPost_ret (v := .agg #[.int .i64 1, .int .i64 0]) (by simp [results, Try.results74, go_sem]) rfl ⟨rfl, (by repeat (first | exact Below.refl _ _ | assumption | refine Below.alloc ?_ (by simp <;> omega) _ | refine Below.setCell ?_ (by simp <;> omega) _ | refine Below.drew ?_ | refine below_drewN ?_ _))⟩
    · have t2 : decide (0 < p) = false := by simp; omega
      have E : Hid (shr p q = (0, 1)) := by show _ = _; unfold shr; rw [if_neg h1, if_neg h2]
      go_enter Try.func74, Try.ntmps74
      go_wp2
      rw [E.out]
      exact bodyPost_ret (v := .agg #[.int .i64 0, .int .i64 1]) (by simp [results, Try.results74, go_sem]) rfl ⟨rfl, (by repeat (first | exact Below.refl _ _ | assumption | refine Below.alloc ?_ (by simp <;> omega) _ | refine Below.setCell ?_ (by simp <;> omega) _ | refine Below.drew ?_ | refine below_drewN ?_ _))⟩

set_option maxHeartbeats 4000000 in
theorem above_any (a b c d : Int) (ha : I64 a) (hb : I64 b) (hc : I64 c) (hd : I64 d) (w : World) :
    Calls Try.prog 75 #[.agg #[.int .i64 a, .int .i64 b], .agg #[.int .i64 c, .int .i64 d]] w fun e w' => e = .returned (.bool (decide (c * b < a * d))) ∧ Below w.heap.size w w' := by
  have C1 := hid (fun w => times_any c b hc hb w)
  have C2 := hid (fun w => times_any a d ha hd w)
  have C3 := hid (fun w => less_any (c * b) (a * d) w)
  clear ha hb hc hd
  generalize hX : c * b = X at *
  generalize hY : a * d = Y at *
  clear hX hY
  go_enter Try.func75, Try.ntmps75
  go_upto_region 1 with fail
  have hB : Below w.heap.size w ((w.alloc (.cells #[.int .i64 a, .int .i64 b] 91)).alloc (.cells #[.int .i64 c, .int .i64 d] 91)) := (by repeat (first | exact Below.refl _ _ | assumption | refine Below.alloc ?_ (by simp <;> omega) _ | refine Below.setCell ?_ (by simp <;> omega) _ | refine Below.drew ?_ | refine below_drewN ?_ _))
  have c0 : ((w.alloc (.cells #[.int .i64 a, .int .i64 b] 91)).alloc (.cells #[.int .i64 c, .int .i64 d] 91)).cell? ⟨w.heap.size, 0, none⟩ = some (.int .i64 a) := by simp [go_sem]
  have c1 : ((w.alloc (.cells #[.int .i64 a, .int .i64 b] 91)).alloc (.cells #[.int .i64 c, .int .i64 d] 91)).cell? ⟨w.heap.size, 1, none⟩ = some (.int .i64 b) := by simp [go_sem]
  have c2 : ((w.alloc (.cells #[.int .i64 a, .int .i64 b] 91)).alloc (.cells #[.int .i64 c, .int .i64 d] 91)).cell? ⟨w.heap.size + 1, 0, none⟩ = some (.int .i64 c) := by simp [go_sem]
  have c3 : ((w.alloc (.cells #[.int .i64 a, .int .i64 b] 91)).alloc (.cells #[.int .i64 c, .int .i64 d] 91)).cell? ⟨w.heap.size + 1, 1, none⟩ = some (.int .i64 d) := by simp [go_sem]
  generalize (w.alloc (.cells #[.int .i64 a, .int .i64 b] 91)).alloc (.cells #[.int .i64 c, .int .i64 d] 91) = W at *
  have hB := hB.drew
  go_region_held3 (fun w' => w'.cell? ⟨w.heap.size, 0, none⟩ = some (.int .i64 a) ∧ w'.cell? ⟨w.heap.size, 1, none⟩ = some (.int .i64 b) ∧ w'.cell? ⟨w.heap.size + 1, 0, none⟩ = some (.int .i64 c) ∧ w'.cell? ⟨w.heap.size + 1, 1, none⟩ = some (.int .i64 d)) (exact ⟨c0, c1, c2, c3⟩)
    (first
    | (go_at_call 76; first | ((with_reducible refine (C1.out _).mono ?_); rintro e w' ⟨rfl, hq⟩; have c0 := keepc hq c0; have c1 := keepc hq c1; have c2 := keepc hq c2; have c3 := keepc hq c3; have hB := hB.trans (hq.mono hB.size)) | ((with_reducible refine (C2.out _).mono ?_); rintro e w' ⟨rfl, hq⟩; have c0 := keepc hq c0; have c1 := keepc hq c1; have c2 := keepc hq c2; have c3 := keepc hq c3; have hB := hB.trans (hq.mono hB.size)))
    | (go_at_call 66; (with_reducible refine (C3.out _).mono ?_); rintro e w' ⟨rfl, hq⟩; have c0 := keepc hq c0; have c1 := keepc hq c1; have c2 := keepc hq c2; have c3 := keepc hq c3; have hB := hB.trans (hq.mono hB.size)))
  all_goals
    go_wp2
    go_ret
    exact ⟨rfl, hB⟩

end Go.Proofs.Ytmdhcigkhapolaa
