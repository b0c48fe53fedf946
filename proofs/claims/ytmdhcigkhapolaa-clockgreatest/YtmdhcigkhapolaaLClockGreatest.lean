/- ClockGreatest: for all lengths of int64 and all drifts the law's call returns true: the length that Len answers is safe, and one more isn't. No further conditions. -/
import Derived.Test.YtmdhcigkhapolaaKC
namespace Go.Proofs.Ytmdhcigkhapolaa.clockGreatest
open Go.ChangeShapes Go.WideShapes Go.ChangeAt Go.RowKit
set_option linter.unusedVariables false

theorem bigs (l d : Int) (l1 : 1 ≤ l) (l2 : l ≤ 1099511627776) (d0 : 0 ≤ d) (d1 : d < 1000) :
    0 ≤ l * (1000 - d) / (1000 + d) ∧ l * (1000 - d) / (1000 + d) ≤ l ∧ safeB l (l * (1000 - d) / (1000 + d)) d = true ∧ safeB l (l * (1000 - d) / (1000 + d) + 1) d = false ∧ (d = 0 → l * (1000 - d) / (1000 + d) = l) := by
  have m0 : 0 ≤ l * (1000 - d) := Int.mul_nonneg (by omega) (by omega)
  have h0 : 0 ≤ l * (1000 - d) / (1000 + d) := Int.ediv_nonneg m0 (by omega)
  have e1 := Int.ediv_mul_le (l * (1000 - d)) (show (1000 + d) ≠ 0 by omega)
  have e2 := Int.lt_ediv_add_one_mul_self (l * (1000 - d)) (show 0 < 1000 + d by omega)
  have e3 : l * (1000 - d) ≤ l * (1000 + d) := Int.mul_le_mul_of_nonneg_left (by omega) (by omega)
  have h1 : l * (1000 - d) / (1000 + d) ≤ l := by
    apply Int.ediv_le_of_le_mul (by omega) e3
  refine ⟨h0, h1, ?_, ?_, ?_⟩
  · have o1 : okl l = true := by simp [okl]; omega
    have o2 : okl (l * (1000 - d) / (1000 + d)) = true := by unfold okl; exact decide_eq_true ⟨h0, by omega⟩
    have o3 : okd d = true := by simp [okd]; omega
    have o4 : decide (l * (1000 - d) / (1000 + d) * (1000 + d) ≤ l * (1000 - d)) = true := decide_eq_true e1
    unfold safeB
    rw [o1, o2, o3, o4]; rfl
  · have o4 : decide ((l * (1000 - d) / (1000 + d) + 1) * (1000 + d) ≤ l * (1000 - d)) = false := decide_eq_false (by omega)
    unfold safeB
    rw [o4]; simp
  · rintro rfl
    omega

set_option maxHeartbeats 1000000 in
theorem bad (l d : Int) (w : World) (H : Hid (okL l d = false)) (hd : I64 d) :
    Calls Try.prog 9 #[.int .i64 l, .int .i64 d] w fun e w' => e = .returned (.bool true) ∧ Below w.heap.size w w' := by
  have E1 : Hid (lenV l d = 0) := by unfold lenV; rw [H.out]; rfl
  have E2 : Hid (lenE l d = 1) := by unfold lenE; rw [H.out]; rfl
  by_cases ha : l < 1
  · have ta : decide (l < 1) = true := by simp; omega
    go_enter Try.func9, Try.ntmps9
    go_wp2_with fail
    refine (awake4_any _).mono ?_
    rintro e x0 ⟨rfl, q0⟩
    go_wp2_with fail
    refine (len_v l d 0 1 E1.out E2.out _).mono ?_
    rintro e x1 ⟨rfl, h1⟩
    have q1 := q0.trans (h1.mono q0.size)
    go_wp2
    go_ret
    exact ⟨rfl, q1⟩
  · have ta : decide (l < 1) = false := by simp; omega
    by_cases hb : 1099511627776 < l
    · have tb : decide (1099511627776 < l) = true := by simp; omega
      go_enter Try.func9, Try.ntmps9
      go_wp2_with fail
      refine (awake4_any _).mono ?_
      rintro e x0 ⟨rfl, q0⟩
      go_wp2_with fail
      refine (len_v l d 0 1 E1.out E2.out _).mono ?_
      rintro e x1 ⟨rfl, h1⟩
      have q1 := q0.trans (h1.mono q0.size)
      go_wp2
      go_ret
      exact ⟨rfl, q1⟩
    · have tb : decide (1099511627776 < l) = false := by simp; omega
      by_cases hc : d < 0
      · have tc : decide (d < 0) = true := by simp; omega
        go_enter Try.func9, Try.ntmps9
        go_wp2_with fail
        refine (awake4_any _).mono ?_
        rintro e x0 ⟨rfl, q0⟩
        go_wp2_with fail
        refine (len_v l d 0 1 E1.out E2.out _).mono ?_
        rintro e x1 ⟨rfl, h1⟩
        have q1 := q0.trans (h1.mono q0.size)
        go_wp2
        go_ret
        exact ⟨rfl, q1⟩
      · have tc : decide (d < 0) = false := by simp; omega
        have t9 : decide (999 < d) = true := by
          have := H.out; simp [okL, okl, okd] at this; simp; omega
        go_enter Try.func9, Try.ntmps9
        go_wp2_with fail
        refine (awake4_any _).mono ?_
        rintro e x0 ⟨rfl, q0⟩
        go_wp2_with fail
        refine (len_v l d 0 1 E1.out E2.out _).mono ?_
        rintro e x1 ⟨rfl, h1⟩
        have q1 := q0.trans (h1.mono q0.size)
        go_wp2
        go_ret
        exact ⟨rfl, q1⟩

set_option maxHeartbeats 1000000 in
theorem good (l d N : Int) (w : World) (l1 : 1 ≤ l) (l2 : l ≤ 1099511627776) (d0 : 0 ≤ d) (d1 : d < 1000) (n0 : 0 ≤ N) (n1 : N ≤ l) (E1 : Hid (lenV l d = N)) (E2 : Hid (lenE l d = 0)) (S1 : Hid (safeB l N d = true)) (S2 : Hid (safeB l (N + 1) d = false)) (Z : Hid (d = 0 → N = l)) :
    Calls Try.prog 9 #[.int .i64 l, .int .i64 d] w fun e w' => e = .returned (.bool true) ∧ Below w.heap.size w w' := by
  have ta : decide (l < 1) = false := by simp; omega
  have tb : decide (1099511627776 < l) = false := by simp; omega
  have tc : decide (d < 0) = false := by simp; omega
  have te : decide (999 < d) = false := by simp; omega
  have tf : decide (0 ≤ N) = true := by simp; omega
  have tg : decide (N ≤ l) = true := by simp; omega
  by_cases hm : N = 1099511627776
  · have tm : (N == 1099511627776) = true := by simp; omega
    by_cases hz : 0 < d
    · have tz : decide (0 < d) = true := by simp; omega
      clear hm
      go_enter Try.func9, Try.ntmps9
      go_wp2_with fail
      refine (awake4_any _).mono ?_
      rintro e x0 ⟨rfl, q0⟩
      go_wp2_with fail
      refine (len_v l d N 0 E1.out E2.out _).mono ?_
      rintro e x1 ⟨rfl, h1⟩
      have q1 := q0.trans (h1.mono q0.size)
      go_wp2_with fail
      refine (safe_v l N d true S1.out _).mono ?_
      rintro e x2 ⟨rfl, h2⟩
      have q2 := q1.trans (h2.mono q1.size)
      go_wp2
      go_ret
      exact ⟨rfl, q2⟩
    · have tz : decide (0 < d) = false := by simp; omega
      have tn : (N == l) = true := by simp; exact Z.out (by omega)
      clear hm
      go_enter Try.func9, Try.ntmps9
      go_wp2_with fail
      refine (awake4_any _).mono ?_
      rintro e x0 ⟨rfl, q0⟩
      go_wp2_with fail
      refine (len_v l d N 0 E1.out E2.out _).mono ?_
      rintro e x1 ⟨rfl, h1⟩
      have q1 := q0.trans (h1.mono q0.size)
      go_wp2_with fail
      refine (safe_v l N d true S1.out _).mono ?_
      rintro e x2 ⟨rfl, h2⟩
      have q2 := q1.trans (h2.mono q1.size)
      go_wp2
      go_ret
      exact ⟨rfl, q2⟩
  · have tm : (N == 1099511627776) = false := by simp; omega
    by_cases hz : 0 < d
    · have tz : decide (0 < d) = true := by simp; omega
      go_enter Try.func9, Try.ntmps9
      go_wp2_with fail
      refine (awake4_any _).mono ?_
      rintro e x0 ⟨rfl, q0⟩
      go_wp2_with fail
      refine (len_v l d N 0 E1.out E2.out _).mono ?_
      rintro e x1 ⟨rfl, h1⟩
      have q1 := q0.trans (h1.mono q0.size)
      go_wp2_with fail
      refine (safe_v l N d true S1.out _).mono ?_
      rintro e x2 ⟨rfl, h2⟩
      have q2 := q1.trans (h2.mono q1.size)
      go_wp2_with fail
      refine (safe_v l (N + 1) d false S2.out _).mono ?_
      rintro e x3 ⟨rfl, h3⟩
      have q3 := q2.trans (h3.mono q2.size)
      go_wp2
      go_ret
      exact ⟨rfl, q3⟩
    · have tz : decide (0 < d) = false := by simp; omega
      have tn : (N == l) = true := by simp; exact Z.out (by omega)
      go_enter Try.func9, Try.ntmps9
      go_wp2_with fail
      refine (awake4_any _).mono ?_
      rintro e x0 ⟨rfl, q0⟩
      go_wp2_with fail
      refine (len_v l d N 0 E1.out E2.out _).mono ?_
      rintro e x1 ⟨rfl, h1⟩
      have q1 := q0.trans (h1.mono q0.size)
      go_wp2_with fail
      refine (safe_v l N d true S1.out _).mono ?_
      rintro e x2 ⟨rfl, h2⟩
      have q2 := q1.trans (h2.mono q1.size)
      go_wp2_with fail
      refine (safe_v l (N + 1) d false S2.out _).mono ?_
      rintro e x3 ⟨rfl, h3⟩
      have q3 := q2.trans (h3.mono q2.size)
      go_wp2
      go_ret
      exact ⟨rfl, q3⟩

theorem walk (l d : Int) (w : World) (hl : I64 l) (hd : I64 d) :
    Calls Try.prog 9 #[.int .i64 l, .int .i64 d] w fun e w' => e = .returned (.bool true) ∧ Below w.heap.size w w' := by
  cases h : okL l d
  · exact bad l d w h hd
  · obtain ⟨⟨h1, h2⟩, h3⟩ : (1 ≤ l ∧ okl l = true) ∧ okd d = true := by simpa [okL] using h
    have a := okl_t h2
    have b := okd_t h3
    obtain ⟨g0, g1, g2, g3, g4⟩ := bigs l d h1 a.2 b.1 b.2
    exact good l d _ w h1 a.2 b.1 b.2 g0 g1 (by unfold lenV; rw [h]; rfl) (by unfold lenE; rw [h]; rfl) g2 g3 g4

theorem own : ownKnob Try.prog.godebug = none := by kernel_rfl
theorem laidOut : laidOutB Try.prog = true := by kernel_rfl

set_option maxRecDepth 100000 in
theorem lifted (os : Os) (started : os.Started) (H : Type) (enc : TypeId × Value → H) :
    ReturnsInHanded {} Try.checked os 9 .any (Rows.clockGreatestSpec.pre6 enc Try.prog Try.f9 Rows.clockGreatestRow.domain false) (Rows.clockGreatestSpec.post enc Try.prog Try.f9 false true false false) := by
  refine returnsInHanded_of_change (C := Try.checked) own started (by kernel_rfl) Try.func9
    (ChangeSpec.witness6 (enc := enc) (C := Try.checked) false ⟨#[], #[.int .i64 0, .int .i64 0], []⟩ 8 (by kernel_rfl) (by kernel_rfl) (by kernel_rfl) (by kernel_rfl)) ?_
  intro W base args ds gs before hval0 hW hcnd _
  have hval : ∀ (j : Nat) t v, Try.f9.params[j]? = some t → args[j]? = some v → Value.okWide Try.prog W .any base t v := hval0
  have hW' := hW
  obtain ⟨p, q, hA0, hV, rfl, hfz, hnd⟩ := hW
  have hA : DataW.TrodAll enc Try.prog W 0 (fun _ => true) true Try.f9.params.toList args.toList ds p := hA0
  rw [Try.params9] at hA hval
  obtain ⟨v0, vs0, d0, ds0, p0, q0, hargs, rfl, rfl, h0, r0⟩ := trodAll_cons hA
  obtain ⟨v1, vs1, d1, ds1, p1, q1, rfl, rfl, rfl, h1, r1⟩ := trodAll_cons r0
  obtain ⟨rfl, rfl, rfl⟩ := trodAll_nil r1
  obtain rfl : args = #[v0, v1] := by cases args; simp_all
  obtain ⟨rfl, rfl⟩ := trodVars_none hV
  have lt0 : ∀ x ∈ p0, x.block < W.heap.size := by obtain ⟨m, hm⟩ := h0; exact DataW.trod_lt m _ _ _ hm
  have lt1 : ∀ x ∈ p1, x.block < W.heap.size := by obtain ⟨m, hm⟩ := h1; exact DataW.trod_lt m _ _ _ hm
  obtain ⟨a0, rfl, w0⟩ := val_i64 Try.underlying2 (hval 0 2 v0 rfl rfl) h0
  obtain ⟨a1, rfl, w1⟩ := val_i64 Try.underlying3 (hval 1 3 v1 rfl rfl) h1
  clear hA0 hval0
  refine (walk a0 a1 W w0 w1).mono fun e W' ⟨he, bel⟩ => ?_
  subst he
  exact ⟨_, rfl, _, _, _, [], _, [], hW', trodAll_mk1 (shut_bool Try.underlying4 _), (trodAll_cons_mk (Below.trod laidOut (by kernel_rfl) (of_decide_eq_true (by kernel_rfl)) h0 bel lt0) (trodAll_cons_mk (Below.trod laidOut (by kernel_rfl) (of_decide_eq_true (by kernel_rfl)) h1 bel lt1) trodAll_mk0)), rfl, bel.frame _, fun h => by cases h⟩

theorem over : Rows.clockGreatestRow.holds Try.pinned (OpenSpec.ofChange Rows.clockGreatestSpec) :=
  OpenClaim.holds_of_wide 9 Try.f9 rfl rfl rfl rfl rfl rfl rfl ⟨rfl, rfl, rfl, rfl, rfl⟩ rfl rfl rfl rfl rfl (by kernel_rfl) Try.func9 (by kernel_rfl)
    (of_decide_eq_true (by kernel_rfl)) (by unfold Func.isWrapper; first | (rw [if_pos (by decide +kernel)]; kernel_rfl) | (rw [if_neg (by decide +kernel)]; exact ⟨rfl, rfl⟩))
    (fun os started H enc _ => lifted os started H enc)

theorem proved : Rows.ClockGreatestSaid := over
#print axioms proved
end Go.Proofs.Ytmdhcigkhapolaa.clockGreatest
