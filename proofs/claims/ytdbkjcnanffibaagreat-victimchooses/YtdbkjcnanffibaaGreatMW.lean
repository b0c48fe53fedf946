/-
  Contract: furlonglaw02.awake.
  Contracts of furlongref02: Add, Sub, part, above.
  Contracts of furlongref02: part (its world written out), Share.
  Contract of furlongref02: Share.
  Contracts of furlongref02: Share, DocShare.
  Contract of furlongref02: times.
-/
import Derived.Test.YtdbkjcnanffibaaGreatMV
import Derived.Laws.BitsLemmas
import Derived.Deep.DeepCutAuto
import Derived.Deep.CutBlock
namespace Go.Proofs.YtdbkjcnanffibaaGreat
open Go.RowKit Go.Shelf
set_option linter.unusedVariables false

theorem rop_awake : rop (1, 2) (3, 4) (1 + 3, 2 + 4) = ((4, 6), 0) := by decide
theorem shv_awake : shv 2 1 9 2 = (1, 2, 0) := by decide
theorem fit_awake : fitB 4 6 4 6 = true := by decide

end Go.Proofs.YtdbkjcnanffibaaGreat

namespace Go.Proofs.YtdbkjcnanffibaaGreat
open Go.RowKit Go.Shelf
set_option linter.unusedVariables false

theorem chks_two_ok {a b : Int × Int} (h : [a, b].all okv = true) : chks [a, b] = 0 := by unfold chks; rw [if_pos h]
theorem chks_two_no {a b : Int × Int} (h : [a, b].all okv = false) : chks [a, b] = 1 := by unfold chks; rw [h]; rfl
theorem rin_good {s : Int × Int} (h : okv s = true) : rin s = (s, 0) := by unfold rin; rw [if_pos h]
theorem rin_over {s : Int × Int} (h : okv s = false) : rin s = ((0, 0), 2) := by unfold rin; rw [h]; rfl

set_option maxHeartbeats 1000000 in
theorem part_any (p q : Int) (w : World) :
    Calls Tryz.prog 65 #[.int .i64 p, .int .i64 q] w fun e w' => e = .returned (.agg #[.int .i64 (shr p q).1, .int .i64 (shr p q).2]) ∧ Below w.heap.size w w' := by
  by_cases h1 : 0 < q
  · have t1 : decide (0 < q) = true := by simp; omega
    have E : Hid (shr p q = (p, q)) := by show _ = _; unfold shr; rw [if_pos h1]
    go_enter Tryz.func65, Tryz.ntmps65
    go_wp2
    rw [E.out]
    exact bodyPost_ret (v := .agg #[.int .i64 p, .int .i64 q]) (by simp [results, Tryz.results65, go_sem]) rfl ⟨rfl, (by repeat (first | exact Below.refl _ _ | assumption | refine Below.alloc ?_ (by simp <;> omega) _ | refine Below.setCell ?_ (by simp <;> omega) _ | refine Below.drew ?_ | refine below_drewN ?_ _))⟩
  · have t1 : decide (0 < q) = false := by simp; omega
    by_cases h2 : 0 < p
    · have t2 : decide (0 < p) = true := by simp; omega
      have E : Hid (shr p q = (1, 0)) := by show _ = _; unfold shr; rw [if_neg h1, if_pos h2]
      go_enter Tryz.func65, Tryz.ntmps65
      go_wp2
      rw [E.out]
      exact bodyPost_ret (v := .agg #[.int .i64 1, .int .i64 0]) (by simp [results, Tryz.results65, go_sem]) rfl ⟨rfl, (by repeat (first | exact Below.refl _ _ | assumption | refine Below.alloc ?_ (by simp <;> omega) _ | refine Below.setCell ?_ (by simp <;> omega) _ | refine Below.drew ?_ | refine below_drewN ?_ _))⟩
    · have t2 : decide (0 < p) = false := by simp; omega
      have E : Hid (shr p q = (0, 1)) := by show _ = _; unfold shr; rw [if_neg h1, if_neg h2]
      go_enter Tryz.func65, Tryz.ntmps65
      go_wp2
      rw [E.out]
      exact bodyPost_ret (v := .agg #[.int .i64 0, .int .i64 1]) (by simp [results, Tryz.results65, go_sem]) rfl ⟨rfl, (by repeat (first | exact Below.refl _ _ | assumption | refine Below.alloc ?_ (by simp <;> omega) _ | refine Below.setCell ?_ (by simp <;> omega) _ | refine Below.drew ?_ | refine below_drewN ?_ _))⟩

set_option maxHeartbeats 4000000 in
theorem above_any (a b c d : Int) (ha : I64 a) (hb : I64 b) (hc : I64 c) (hd : I64 d) (w : World) :
    Calls Tryz.prog 66 #[.agg #[.int .i64 a, .int .i64 b], .agg #[.int .i64 c, .int .i64 d]] w fun e w' => e = .returned (.bool (decide (c * b < a * d))) ∧ Below w.heap.size w w' := by
  have C1 := hid (fun w => times_any c b hc hb w)
  have C2 := hid (fun w => times_any a d ha hd w)
  have C3 := hid (fun w => less_any (c * b) (a * d) w)
  clear ha hb hc hd
  generalize hX : c * b = X at *
  generalize hY : a * d = Y at *
  clear hX hY
  go_enter Tryz.func66, Tryz.ntmps66
  go_upto_region 1 with fail
  have hB : Below w.heap.size w ((w.alloc (.cells #[.int .i64 a, .int .i64 b] 89)).alloc (.cells #[.int .i64 c, .int .i64 d] 89)) := (by repeat (first | exact Below.refl _ _ | assumption | refine Below.alloc ?_ (by simp <;> omega) _ | refine Below.setCell ?_ (by simp <;> omega) _ | refine Below.drew ?_ | refine below_drewN ?_ _))
  have c0 : ((w.alloc (.cells #[.int .i64 a, .int .i64 b] 89)).alloc (.cells #[.int .i64 c, .int .i64 d] 89)).cell? ⟨w.heap.size, 0, none⟩ = some (.int .i64 a) := by simp [go_sem]
  have c1 : ((w.alloc (.cells #[.int .i64 a, .int .i64 b] 89)).alloc (.cells #[.int .i64 c, .int .i64 d] 89)).cell? ⟨w.heap.size, 1, none⟩ = some (.int .i64 b) := by simp [go_sem]
  have c2 : ((w.alloc (.cells #[.int .i64 a, .int .i64 b] 89)).alloc (.cells #[.int .i64 c, .int .i64 d] 89)).cell? ⟨w.heap.size + 1, 0, none⟩ = some (.int .i64 c) := by simp [go_sem]
  have c3 : ((w.alloc (.cells #[.int .i64 a, .int .i64 b] 89)).alloc (.cells #[.int .i64 c, .int .i64 d] 89)).cell? ⟨w.heap.size + 1, 1, none⟩ = some (.int .i64 d) := by simp [go_sem]
  generalize (w.alloc (.cells #[.int .i64 a, .int .i64 b] 89)).alloc (.cells #[.int .i64 c, .int .i64 d] 89) = W at *
  have hB := hB.drew
  go_region_held3 (fun w' => w'.cell? ⟨w.heap.size, 0, none⟩ = some (.int .i64 a) ∧ w'.cell? ⟨w.heap.size, 1, none⟩ = some (.int .i64 b) ∧ w'.cell? ⟨w.heap.size + 1, 0, none⟩ = some (.int .i64 c) ∧ w'.cell? ⟨w.heap.size + 1, 1, none⟩ = some (.int .i64 d)) (exact ⟨c0, c1, c2, c3⟩)
    (first
    | (go_at_call 67; first | ((with_reducible refine (C1.out _).mono ?_); rintro e w' ⟨rfl, hq⟩; have c0 := keepc hq c0; have c1 := keepc hq c1; have c2 := keepc hq c2; have c3 := keepc hq c3; have hB := hB.trans (hq.mono hB.size)) | ((with_reducible refine (C2.out _).mono ?_); rintro e w' ⟨rfl, hq⟩; have c0 := keepc hq c0; have c1 := keepc hq c1; have c2 := keepc hq c2; have c3 := keepc hq c3; have hB := hB.trans (hq.mono hB.size)))
    | (go_at_call 46; (with_reducible refine (C3.out _).mono ?_); rintro e w' ⟨rfl, hq⟩; have c0 := keepc hq c0; have c1 := keepc hq c1; have c2 := keepc hq c2; have c3 := keepc hq c3; have hB := hB.trans (hq.mono hB.size)))
  all_goals
    go_wp2
    go_ret
    exact ⟨rfl, hB⟩

end Go.Proofs.YtdbkjcnanffibaaGreat

namespace Go.Proofs.YtdbkjcnanffibaaGreat
open Go.RowKit Go.Shelf
set_option linter.unusedVariables false

set_option maxHeartbeats 1000000 in
theorem part_x (p q : Int) (w : World) :
    Calls Tryz.prog 65 #[.int .i64 p, .int .i64 q] w fun e w' => e = .returned (.agg #[.int .i64 (shr p q).1, .int .i64 (shr p q).2]) ∧ w.alloc (.cells #[.int .i64 (shr p q).1, .int .i64 (shr p q).2] 89) = w' := by
  by_cases h1 : 0 < q
  · have t1 : decide (0 < q) = true := by simp; omega
    have E : Hid (shr p q = (p, q)) := by show _ = _; unfold shr; rw [if_pos h1]
    go_enter Tryz.func65, Tryz.ntmps65
    go_wp2
    rw [E.out]
    exact bodyPost_ret (v := .agg #[.int .i64 p, .int .i64 q]) (by simp [results, Tryz.results65, go_sem]) rfl ⟨rfl, by simp [go_sem]⟩
  · have t1 : decide (0 < q) = false := by simp; omega
    by_cases h2 : 0 < p
    · have t2 : decide (0 < p) = true := by simp; omega
      have E : Hid (shr p q = (1, 0)) := by show _ = _; unfold shr; rw [if_neg h1, if_pos h2]
      go_enter Tryz.func65, Tryz.ntmps65
      go_wp2
      rw [E.out]
      exact bodyPost_ret (v := .agg #[.int .i64 1, .int .i64 0]) (by simp [results, Tryz.results65, go_sem]) rfl ⟨rfl, by simp [go_sem]⟩
    · have t2 : decide (0 < p) = false := by simp; omega
      have E : Hid (shr p q = (0, 1)) := by show _ = _; unfold shr; rw [if_neg h1, if_neg h2]
      go_enter Tryz.func65, Tryz.ntmps65
      go_wp2
      rw [E.out]
      exact bodyPost_ret (v := .agg #[.int .i64 0, .int .i64 1]) (by simp [results, Tryz.results65, go_sem]) rfl ⟨rfl, by simp [go_sem]⟩

end Go.Proofs.YtdbkjcnanffibaaGreat

namespace Go.Proofs.YtdbkjcnanffibaaGreat
open Go.RowKit Go.Shelf
set_option linter.unusedVariables false

set_option maxHeartbeats 40000000 in
theorem rshare_yes (c m p q C0 C1 M0 M1 : Int) (w : World)
    (P1 : Hid (∀ w : World, Calls Tryz.prog 65 #[.int .i64 c, .int .i64 p] w fun e w' => e = .returned (.agg #[.int .i64 C0, .int .i64 C1]) ∧ w.alloc (.cells #[.int .i64 C0, .int .i64 C1] 89) = w'))
    (P2 : Hid (∀ w : World, Calls Tryz.prog 65 #[.int .i64 m, .int .i64 q] w fun e w' => e = .returned (.agg #[.int .i64 M0, .int .i64 M1]) ∧ w.alloc (.cells #[.int .i64 M0, .int .i64 M1] 89) = w'))
    (AB : Hid (∀ w : World, Calls Tryz.prog 66 #[.agg #[.int .i64 M0, .int .i64 M1], .agg #[.int .i64 C0, .int .i64 C1]] w fun e w' => e = .returned (.bool true) ∧ Below w.heap.size w w')) :
    Calls Tryz.prog 44 #[.agg #[.int .i64 c, .int .i64 m], .agg #[.int .i64 p, .int .i64 q]] w fun e w' => e = .returned (.agg #[.int .i64 M0, .int .i64 M1]) ∧ Below w.heap.size w w' := by
  go_enter Tryz.func44, Tryz.ntmps44
  go_upto_region 1 with fail
  go_region_held3 (fun w' => w'.cell? ⟨w.heap.size, 0, none⟩ = some (.int .i64 c) ∧ w'.cell? ⟨w.heap.size, 1, none⟩ = some (.int .i64 m) ∧ w'.cell? ⟨w.heap.size + 1, 0, none⟩ = some (.int .i64 p) ∧ w'.cell? ⟨w.heap.size + 1, 1, none⟩ = some (.int .i64 q)) (simp [go_sem])
    (first
    | (go_at_call 65; first | ((with_reducible refine (P1.out _).mono ?_); rintro e w' ⟨rfl, rfl⟩) | ((with_reducible refine (P2.out _).mono ?_); rintro e w' ⟨rfl, rfl⟩)))
  all_goals
    go_wp2_with fail
    refine (AB.out _).mono ?_
    rintro e w3 ⟨rfl, h3⟩
    have k3 := h3.cell (p := ⟨w.heap.size + 1 + 1 + 1, 0, none⟩) (by simp <;> omega)
    simp [go_sem] at k3
    have k3' := h3.cell (p := ⟨w.heap.size + 1 + 1 + 1, 1, none⟩) (by simp <;> omega)
    simp [go_sem] at k3'
    have k4 := h3.cell (p := ⟨w.heap.size + 1 + 1 + 1 + 1, 0, none⟩) (by simp <;> omega)
    simp [go_sem] at k4
    have k4' := h3.cell (p := ⟨w.heap.size + 1 + 1 + 1 + 1, 1, none⟩) (by simp <;> omega)
    simp [go_sem] at k4'
    have k5 := h3.cell (p := ⟨w.heap.size + 1 + 1 + 1 + 1 + 1, 0, none⟩) (by simp <;> omega)
    simp [go_sem] at k5
    have k5' := h3.cell (p := ⟨w.heap.size + 1 + 1 + 1 + 1 + 1, 1, none⟩) (by simp <;> omega)
    simp [go_sem] at k5'
    have k6 := h3.cell (p := ⟨w.heap.size + 1 + 1 + 1 + 1 + 1 + 1, 0, none⟩) (by simp <;> omega)
    simp [go_sem] at k6
    have k6' := h3.cell (p := ⟨w.heap.size + 1 + 1 + 1 + 1 + 1 + 1, 1, none⟩) (by simp <;> omega)
    simp [go_sem] at k6'
    have f0 := keepf h3 (a := ⟨w.heap.size + 1 + 1, 0, none⟩) (v := .int .i64 0) (by simp [go_sem]) (by simp [go_sem])
    have r0 := keepc h3 (a := ⟨w.heap.size + 1 + 1, 0, none⟩) (v := .int .i64 0) (by simp [go_sem])
    have f1 := keepf h3 (a := ⟨w.heap.size + 1 + 1, 1, none⟩) (v := .int .i64 0) (by simp [go_sem]) (by simp [go_sem])
    have r1 := keepc h3 (a := ⟨w.heap.size + 1 + 1, 1, none⟩) (v := .int .i64 0) (by simp [go_sem])
    have hB3 : Below w.heap.size w w3 := Below.trans (by repeat (first | exact Below.refl _ _ | assumption | refine Below.alloc ?_ (by simp <;> omega) _ | refine Below.setCell ?_ (by simp <;> omega) _ | refine Below.drew ?_ | refine below_drewN ?_ _)) (h3.mono (by simp <;> omega))
    clear h3
    go_wp2
    exact bodyPost_ret (v := .agg #[.int .i64 M0, .int .i64 M1]) (by simp [results, Tryz.results44, go_sem, r0, r1]) rfl ⟨rfl, (hB3.setCell (by simp <;> omega) _).setCell (by simp <;> omega) _⟩

set_option maxHeartbeats 40000000 in
theorem rshare_no (c m p q C0 C1 M0 M1 : Int) (w : World)
    (P1 : Hid (∀ w : World, Calls Tryz.prog 65 #[.int .i64 c, .int .i64 p] w fun e w' => e = .returned (.agg #[.int .i64 C0, .int .i64 C1]) ∧ w.alloc (.cells #[.int .i64 C0, .int .i64 C1] 89) = w'))
    (P2 : Hid (∀ w : World, Calls Tryz.prog 65 #[.int .i64 m, .int .i64 q] w fun e w' => e = .returned (.agg #[.int .i64 M0, .int .i64 M1]) ∧ w.alloc (.cells #[.int .i64 M0, .int .i64 M1] 89) = w'))
    (AB : Hid (∀ w : World, Calls Tryz.prog 66 #[.agg #[.int .i64 M0, .int .i64 M1], .agg #[.int .i64 C0, .int .i64 C1]] w fun e w' => e = .returned (.bool false) ∧ Below w.heap.size w w')) :
    Calls Tryz.prog 44 #[.agg #[.int .i64 c, .int .i64 m], .agg #[.int .i64 p, .int .i64 q]] w fun e w' => e = .returned (.agg #[.int .i64 C0, .int .i64 C1]) ∧ Below w.heap.size w w' := by
  go_enter Tryz.func44, Tryz.ntmps44
  go_upto_region 1 with fail
  go_region_held3 (fun w' => w'.cell? ⟨w.heap.size, 0, none⟩ = some (.int .i64 c) ∧ w'.cell? ⟨w.heap.size, 1, none⟩ = some (.int .i64 m) ∧ w'.cell? ⟨w.heap.size + 1, 0, none⟩ = some (.int .i64 p) ∧ w'.cell? ⟨w.heap.size + 1, 1, none⟩ = some (.int .i64 q)) (simp [go_sem])
    (first
    | (go_at_call 65; first | ((with_reducible refine (P1.out _).mono ?_); rintro e w' ⟨rfl, rfl⟩) | ((with_reducible refine (P2.out _).mono ?_); rintro e w' ⟨rfl, rfl⟩)))
  all_goals
    go_wp2_with fail
    refine (AB.out _).mono ?_
    rintro e w3 ⟨rfl, h3⟩
    have k3 := h3.cell (p := ⟨w.heap.size + 1 + 1 + 1, 0, none⟩) (by simp <;> omega)
    simp [go_sem] at k3
    have k3' := h3.cell (p := ⟨w.heap.size + 1 + 1 + 1, 1, none⟩) (by simp <;> omega)
    simp [go_sem] at k3'
    have k4 := h3.cell (p := ⟨w.heap.size + 1 + 1 + 1 + 1, 0, none⟩) (by simp <;> omega)
    simp [go_sem] at k4
    have k4' := h3.cell (p := ⟨w.heap.size + 1 + 1 + 1 + 1, 1, none⟩) (by simp <;> omega)
    simp [go_sem] at k4'
    have k5 := h3.cell (p := ⟨w.heap.size + 1 + 1 + 1 + 1 + 1, 0, none⟩) (by simp <;> omega)
    simp [go_sem] at k5
    have k5' := h3.cell (p := ⟨w.heap.size + 1 + 1 + 1 + 1 + 1, 1, none⟩) (by simp <;> omega)
    simp [go_sem] at k5'
    have k6 := h3.cell (p := ⟨w.heap.size + 1 + 1 + 1 + 1 + 1 + 1, 0, none⟩) (by simp <;> omega)
    simp [go_sem] at k6
    have k6' := h3.cell (p := ⟨w.heap.size + 1 + 1 + 1 + 1 + 1 + 1, 1, none⟩) (by simp <;> omega)
    simp [go_sem] at k6'
    have f0 := keepf h3 (a := ⟨w.heap.size + 1 + 1, 0, none⟩) (v := .int .i64 0) (by simp [go_sem]) (by simp [go_sem])
    have r0 := keepc h3 (a := ⟨w.heap.size + 1 + 1, 0, none⟩) (v := .int .i64 0) (by simp [go_sem])
    have f1 := keepf h3 (a := ⟨w.heap.size + 1 + 1, 1, none⟩) (v := .int .i64 0) (by simp [go_sem]) (by simp [go_sem])
    have r1 := keepc h3 (a := ⟨w.heap.size + 1 + 1, 1, none⟩) (v := .int .i64 0) (by simp [go_sem])
    have hB3 : Below w.heap.size w w3 := Below.trans (by repeat (first | exact Below.refl _ _ | assumption | refine Below.alloc ?_ (by simp <;> omega) _ | refine Below.setCell ?_ (by simp <;> omega) _ | refine Below.drew ?_ | refine below_drewN ?_ _)) (h3.mono (by simp <;> omega))
    clear h3
    go_wp2
    exact bodyPost_ret (v := .agg #[.int .i64 C0, .int .i64 C1]) (by simp [results, Tryz.results44, go_sem, r0, r1]) rfl ⟨rfl, (hB3.setCell (by simp <;> omega) _).setCell (by simp <;> omega) _⟩

end Go.Proofs.YtdbkjcnanffibaaGreat

namespace Go.Proofs.YtdbkjcnanffibaaGreat
open Go.RowKit Go.Shelf
set_option linter.unusedVariables false

theorem above_fc {c m p q : Int} (oc : okp c) (om : okp m) (op : okp p) (oq : okp q) : decide ((shr c p).1 * (shr m q).2 < (shr m q).1 * (shr c p).2) = decide (0 < fc (shr m q) (shr c p)) := by
  unfold okp at oc om op oq
  have key : ((shr c p).1 * (shr m q).2 < (shr m q).1 * (shr c p).2) ↔ 0 < fc (shr m q) (shr c p) := by
    have z : ∀ a b : Int, okp a → okp b → (shr a b = (1, 0) ∨ 0 < (shr a b).2) := fun a b ha hb => by
      unfold shr; split
      · right; assumption
      · split
        · left; rfl
        · right; decide
    unfold fc
    rcases z m q om oq with h | h <;> rcases z c p oc op with k | k
    · rw [h, k]; decide
    · rw [h]; simp only; rw [if_pos (Or.inl trivial)]; unfold ord; repeat' split <;> omega
    · rw [k]; simp only; rw [if_pos (Or.inr trivial)]; unfold ord; repeat' split <;> omega
    · rw [if_neg (by omega)]; unfold ord; repeat' split <;> omega
  by_cases h : 0 < fc (shr m q) (shr c p)
  · rw [decide_eq_true h, decide_eq_true (key.2 h)]
  · rw [decide_eq_false h, decide_eq_false (fun k => h (key.1 k))]

theorem rshare_any (c m p q : Int) (oc : okp c) (om : okp m) (op : okp p) (oq : okp q) (w : World) :
    Calls Tryz.prog 44 #[.agg #[.int .i64 c, .int .i64 m], .agg #[.int .i64 p, .int .i64 q]] w fun e w' => e = .returned (.agg #[.int .i64 (dom c m p q).1, .int .i64 (dom c m p q).2]) ∧ Below w.heap.size w w' := by
  have f1 := shr_fr oc op
  have f2 := shr_fr om oq
  have AB := fun w => above_any (shr m q).1 (shr m q).2 (shr c p).1 (shr c p).2 f2.1.1 ⟨by have := f2.1.2.1; omega, f2.1.2.2⟩ f1.1.1 ⟨by have := f1.1.2.1; omega, f1.1.2.2⟩ w
  rw [above_fc oc om op oq] at AB
  by_cases h : 0 < fc (shr m q) (shr c p)
  · rw [decide_eq_true h] at AB
    rw [show dom c m p q = shr m q by unfold dom; rw [if_pos h]]
    exact rshare_yes c m p q _ _ _ _ w (hid (fun w => part_x c p w)) (hid (fun w => part_x m q w)) (hid AB)
  · rw [decide_eq_false h] at AB
    rw [show dom c m p q = shr c p by unfold dom; rw [if_neg h]]
    exact rshare_no c m p q _ _ _ _ w (hid (fun w => part_x c p w)) (hid (fun w => part_x m q w)) (hid AB)

end Go.Proofs.YtdbkjcnanffibaaGreat

namespace Go.Proofs.YtdbkjcnanffibaaGreat
open Go.RowKit Go.Shelf
set_option linter.unusedVariables false
set_option linter.unusedSimpArgs false

theorem i64_low (n : Int) : bits .and .i64 n 1 = n % 2 := by
  have h1 : (BitVec.ofInt 64 1).toNat = 2 ^ 1 - 1 := by decide
  have key : (BitVec.ofInt 64 n &&& BitVec.ofInt 64 1).toNat = (n % ((2 ^ 64 : Nat) : Int)).toNat % 2 ^ 1 := by
    rw [BitVec.toNat_and, BitVec.toNat_ofInt, h1, Nat.and_two_pow_sub_one_eq_mod]
  show IntKind.i64.wrap ((BitVec.ofInt 64 n &&& BitVec.ofInt 64 1).toNat : Nat) = n % 2
  rw [key, IntKind.wrap_i64]
  omega

/-- What is kept of the sum's cells. -/
def Held6 (wr : World) (B6 B7 B8 : Nat) (p S : Int) : Prop :=
  (wr.cell? ⟨B6, 0, none⟩ = some (.int .i64 0) ∧ wr.cell? ⟨B6, 1, none⟩ = some (.int .u64 0) ∧ wr.frozen? ⟨B6, 0, none⟩ = false ∧ wr.frozen? ⟨B6, 1, none⟩ = false) ∧
  (wr.cell? ⟨B7, 0, none⟩ = some (.int .i64 (hi p)) ∧ wr.cell? ⟨B7, 1, none⟩ = some (.int .u64 (lo p))) ∧
  (wr.cell? ⟨B8, 0, none⟩ = some (.int .i64 (hi S)) ∧ wr.cell? ⟨B8, 1, none⟩ = some (.int .u64 (lo S)) ∧ wr.frozen? ⟨B8, 0, none⟩ = false ∧ wr.frozen? ⟨B8, 1, none⟩ = false)

theorem bit_step {x : Int} {j : Nat} : x / 2 ^ j = 2 * (x / 2 ^ (j + 1)) + (x / 2 ^ j) % 2 := by
  rw [Int.pow_succ, ← Int.ediv_ediv_of_nonneg (Int.pow_nonneg (by omega))]
  omega
theorem bit_bd {x : Int} (h0 : 0 ≤ x) (h1 : x < 2097152) (k : Nat) : 0 ≤ x / 2 ^ k ∧ x / 2 ^ k < 2097152 := by
  refine ⟨Int.ediv_nonneg h0 (Int.pow_nonneg (by omega)), Int.lt_of_le_of_lt (Int.ediv_le_self _ h0) h1⟩
theorem S_bd {p x : Int} (p0 : 0 ≤ p) (p1 : p ≤ 1208925819614629174706176) (x0 : 0 ≤ x) (x1 : x < 2097152) (k : Nat) : 0 ≤ p * (x / 2 ^ k) ∧ p * (x / 2 ^ k) ≤ 2535301200456458802993406410752 := by
  obtain ⟨b0, b1⟩ := bit_bd x0 x1 k
  refine ⟨Int.mul_nonneg p0 b0, ?_⟩
  have := Int.mul_le_mul p1 (show x / 2 ^ k ≤ 2097152 by omega) b0 (by omega)
  exact Int.le_trans this (by decide)
theorem sum_step (p x : Int) (j : Nat) : ((x / 2 ^ j) % 2 = 1 → p * (x / 2 ^ j) = p * (x / 2 ^ (j + 1)) + p * (x / 2 ^ (j + 1)) + p) ∧ ((x / 2 ^ j) % 2 = 0 → p * (x / 2 ^ j) = p * (x / 2 ^ (j + 1)) + p * (x / 2 ^ (j + 1))) := by
  have h := @bit_step x j
  constructor
  · intro e; rw [e] at h; rw [h, Int.mul_add, Int.mul_left_comm, Int.mul_one]; omega
  · intro e; rw [e] at h; rw [h, Int.add_zero, Int.mul_left_comm]; omega
theorem I128_bd {n : Int} (h0 : 0 ≤ n) (h1 : n ≤ 170141183460469231731687303715884105727) : I128 n := by unfold I128 hi; omega

set_option maxHeartbeats 4000000 in
theorem wtimes_any (a b x p : Int) (ha : I64 a) (hb : I64 b) (hp : Hid (a * b = p)) (p0 : 0 ≤ p) (p1 : p ≤ 1208925819614629174706176) (x0 : 0 ≤ x) (x1 : x < 2097152) (w : World) :
    Calls Tryz.prog 45 #[.int .i64 a, .int .i64 b, .int .i64 x] w fun e w' => e = .returned (.agg #[.int .i64 (hi (p * x)), .int .u64 (lo (p * x))]) ∧ Below w.heap.size w w' := by
  have TP := fun w => times_any a b ha hb w
  rw [hp.out] at TP
  have TP := hid TP
  rename_i TP0
  clear TP0 hp
  go_enter Tryz.func45, Tryz.ntmps45
  go_wp2_with fail
  refine (TP.out _).mono ?_
  rintro e w1 ⟨rfl, h1⟩
  have f0 := keepf h1 (a := ⟨w.heap.size, 0, none⟩) (v := .int .i64 0) (by simp [go_sem]) (by simp [go_sem])
  have r0 := keepc h1 (a := ⟨w.heap.size, 0, none⟩) (v := .int .i64 0) (by simp [go_sem])
  have f1 := keepf h1 (a := ⟨w.heap.size, 1, none⟩) (v := .int .u64 0) (by simp [go_sem]) (by simp [go_sem])
  have r1 := keepc h1 (a := ⟨w.heap.size, 1, none⟩) (v := .int .u64 0) (by simp [go_sem])
  have sz : w.heap.size + 1 ≤ w1.heap.size := by have := h1.size; simpa using this
  have hB1 : Below w.heap.size w w1 := Below.trans (by repeat (first | exact Below.refl _ _ | assumption | refine Below.alloc ?_ (by simp <;> omega) _ | refine Below.setCell ?_ (by simp <;> omega) _ | refine Below.drew ?_ | refine below_drewN ?_ _)) (h1.mono (by simp <;> omega))
  have n1 : w.heap.size ≠ w1.heap.size := by omega
  have n2 : w.heap.size ≠ w1.heap.size + 1 := by omega
  go_wp2_with fail
  go_loopw [9] (fun i wr => ∃ (k : Nat), k ≤ 21 ∧ i = .int .i64 ((k : Int) - 1) ∧ Held6 wr w.heap.size w1.heap.size (w1.heap.size + 1) p (p * (x / 2 ^ k)) ∧ Below w.heap.size w wr) (fun i _ => (intOf i + 1).toNat)
  case atStart =>
    have z : x / 2 ^ 21 = 0 := Int.ediv_eq_zero_of_lt x0 x1
    have bb : Below w1.heap.size w1 ((w1.alloc (.cells #[.int .i64 (hi p), .int .u64 (lo p)] 93)).alloc (.cells #[.int .i64 0, .int .u64 0] 93)) := (by repeat (first | exact Below.refl _ _ | assumption | refine Below.alloc ?_ (by simp <;> omega) _ | refine Below.setCell ?_ (by simp <;> omega) _ | refine Below.drew ?_ | refine below_drewN ?_ _))
    refine ⟨21, by omega, rfl, ?_, hB1.trans (bb.mono hB1.size)⟩
    rw [z, Int.mul_zero]
    refine ⟨⟨keepc bb r0, keepc bb r1, keepf bb r0 f0, keepf bb r1 f1⟩, ⟨by simp [go_sem], by simp [go_sem]⟩, ?_⟩
    rw [hl_zero.1, hl_zero.2]
    exact ⟨by simp [go_sem], by simp [go_sem], by simp [go_sem], by simp [go_sem]⟩
  case round =>
    clear r0 r1 f0 f1 hB1 h1
    obtain ⟨k, hk, rfl, ⟨⟨c0, c1, c2, c3⟩, ⟨d0, d1⟩, ⟨e0, e1, e2, e3⟩⟩, hB⟩ := hrel
    by_cases hk0 : k = 0
    · subst hk0
      rw [show p * (x / 2 ^ 0) = p * x by simp] at e0 e1
      have hs := hB.size
      go_wp2
      exact bodyPost_ret (v := .agg #[.int .i64 (hi (p * x)), .int .u64 (lo (p * x))]) (by simp [results, Tryz.results45, go_sem, c0, c1]) rfl ⟨rfl, (hB.setCell (by simp <;> omega) _).setCell (by simp <;> omega) _⟩
    · obtain ⟨j, rfl⟩ : ∃ j, k = j + 1 := ⟨k - 1, by omega⟩
      have hj : j ≤ 20 := by omega
      rw [show (((j + 1 : Nat) : Int) - 1) = (j : Int) by omega]
      obtain ⟨s0, s1⟩ := S_bd p0 p1 x0 x1 (j + 1)
      have st := sum_step p x j
      generalize p * (x / 2 ^ (j + 1)) = S at *
      have hr : I128 (S + S) := I128_bd (by omega) (by omega)
      have hr2 : I128 (S + S + p) := I128_bd (by omega) (by omega)
      by_cases hbit : (x / 2 ^ j) % 2 = 1
      · have tb : (bits BinOp.and IntKind.i64 (x / 2 ^ j) 1 == 1) = true := by rw [i64_low, hbit]; rfl
        have SP := hid (st.1 hbit)
        clear st hbit s0 s1
        go_wp2_with fail
        refine (plus_any S S hr _).mono ?_
        rintro e w2 ⟨rfl, h2⟩
        have y0 := keepc h2 c0; have y1 := keepc h2 c1; have y2 := keepf h2 c0 c2; have y3 := keepf h2 c1 c3
        have z0 := keepc h2 d0; have z1 := keepc h2 d1
        have u0 := keepc h2 e0; have u1 := keepc h2 e1; have u2 := keepf h2 e0 e2; have u3 := keepf h2 e1 e3
        have hB2 := hB.trans (h2.mono hB.size)
        clear c0 c1 c2 c3 d0 d1 e0 e1 e2 e3 h2 hB
        go_wp2_with fail
        refine (plus_any (S + S) p hr2 _).mono ?_
        rintro e w3 ⟨rfl, h3⟩
        have a0 := keepc h3 (a := ⟨w.heap.size, 0, none⟩) (v := .int .i64 0) (by simp [go_sem, y0, n2, n2.symm])
        have a1 := keepc h3 (a := ⟨w.heap.size, 1, none⟩) (v := .int .u64 0) (by simp [go_sem, y1, n2, n2.symm])
        have a2 := keepf h3 (a := ⟨w.heap.size, 0, none⟩) (v := .int .i64 0) (by simp [go_sem, y0, n2, n2.symm]) (by simp [go_sem, y2, n2, n2.symm])
        have a3 := keepf h3 (a := ⟨w.heap.size, 1, none⟩) (v := .int .u64 0) (by simp [go_sem, y1, n2, n2.symm]) (by simp [go_sem, y3, n2, n2.symm])
        have b0 := keepc h3 (a := ⟨w1.heap.size, 0, none⟩) (v := .int .i64 (hi p)) (by simp [go_sem, z0])
        have b1 := keepc h3 (a := ⟨w1.heap.size, 1, none⟩) (v := .int .u64 (lo p)) (by simp [go_sem, z1])
        have v0 := keepc h3 (a := ⟨w1.heap.size + 1, 0, none⟩) (v := .int .i64 (hi (S + S))) (by simp [go_sem, u0, u1])
        have v1 := keepc h3 (a := ⟨w1.heap.size + 1, 1, none⟩) (v := .int .u64 (lo (S + S))) (by simp [go_sem, u0, u1])
        have v2 := keepf h3 (a := ⟨w1.heap.size + 1, 0, none⟩) (v := .int .i64 (hi (S + S))) (by simp [go_sem, u0, u1]) (by simp [go_sem, u2, u3])
        have v3 := keepf h3 (a := ⟨w1.heap.size + 1, 1, none⟩) (v := .int .u64 (lo (S + S))) (by simp [go_sem, u0, u1]) (by simp [go_sem, u2, u3])
        have hs := hB2.size
        have hC : Below w.heap.size w ((w2.setCell ⟨w1.heap.size + 1, 0, none⟩ (.int .i64 (hi (S + S)))).setCell ⟨w1.heap.size + 1, 1, none⟩ (.int .u64 (lo (S + S)))) := (hB2.setCell (by simp <;> omega) _).setCell (by simp <;> omega) _
        have hB3 := hC.trans (h3.mono hC.size)
        clear h3 y0 y1 y2 y3 z0 z1 u0 u1 u2 u3 hB2 hC hs
        go_wp2_with fail
        go_roundw
        case rel =>
          refine ⟨j, by omega, rfl, ?_, (hB3.setCell (by simp <;> omega) _).setCell (by simp <;> omega) _⟩
          rw [SP.out]
          exact ⟨⟨by simp [go_sem, a0, n2, n2.symm], by simp [go_sem, a1, n2, n2.symm], by simp [go_sem, a2, n2, n2.symm], by simp [go_sem, a3, n2, n2.symm]⟩, ⟨by simp [go_sem, b0], by simp [go_sem, b1]⟩, ⟨by simp [go_sem, v0, v1], by simp [go_sem, v0, v1], by simp [go_sem, v2, v3], by simp [go_sem, v2, v3]⟩⟩
        case measure => simp [intOf]
      · have tb : (bits BinOp.and IntKind.i64 (x / 2 ^ j) 1 == 1) = false := by rw [i64_low]; simp; omega
        have SP := hid (st.2 (by omega))
        clear st hbit s0 s1
        go_wp2_with fail
        refine (plus_any S S hr _).mono ?_
        rintro e w2 ⟨rfl, h2⟩
        have y0 := keepc h2 c0; have y1 := keepc h2 c1; have y2 := keepf h2 c0 c2; have y3 := keepf h2 c1 c3
        have z0 := keepc h2 d0; have z1 := keepc h2 d1
        have u0 := keepc h2 e0; have u1 := keepc h2 e1; have u2 := keepf h2 e0 e2; have u3 := keepf h2 e1 e3
        have hB2 := hB.trans (h2.mono hB.size)
        clear c0 c1 c2 c3 d0 d1 e0 e1 e2 e3 h2 hB
        go_wp2_with fail
        go_roundw
        case rel =>
          refine ⟨j, by omega, rfl, ?_, (hB2.setCell (by simp <;> omega) _).setCell (by simp <;> omega) _⟩
          rw [SP.out]
          exact ⟨⟨by simp [go_sem, y0, n2, n2.symm], by simp [go_sem, y1, n2, n2.symm], by simp [go_sem, y2, n2, n2.symm], by simp [go_sem, y3, n2, n2.symm]⟩, ⟨by simp [go_sem, z0], by simp [go_sem, z1]⟩, ⟨by simp [go_sem, u0, u1], by simp [go_sem, u0, u1], by simp [go_sem, u2, u3], by simp [go_sem, u2, u3]⟩⟩
        case measure => simp [intOf]

end Go.Proofs.YtdbkjcnanffibaaGreat
