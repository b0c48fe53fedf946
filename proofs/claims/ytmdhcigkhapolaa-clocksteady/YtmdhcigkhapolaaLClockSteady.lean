/- ClockSteady: for all lists of int64 and all drifts the law's call returns true: Steady answers as the document asks. No further conditions. -/
import Derived.Test.YtmdhcigkhapolaaKC
namespace Go.Proofs.Ytmdhcigkhapolaa.clockSteady
open Go.ChangeShapes Go.WideShapes Go.ChangeAt Go.RowKit
set_option linter.unusedVariables false

set_option maxHeartbeats 1000000 in
theorem main (a : Option Addr) (len cap : Nat) (z : List Int) (a2 : Option Addr) (len2 cap2 : Nat) (z2 : List Int) (d : Int) (b : Bool) (w : World) (HB : Hid (steadyB z z2 d = b)) (h : Hid (HoldsI w a len z)) (h2 : Hid (HoldsI w a2 len2 z2)) :
    Calls Try.prog 8 #[.slice a len cap, .slice a2 len2 cap2, .int .i64 d] w fun e w' => e = .returned (.bool true) ∧ Below w.heap.size w w' := by
  have S : Hid (∀ w', Below w.heap.size w w' → Calls Try.prog 26 #[.slice a len cap, .slice a2 len2 cap2, .int .i64 d] w' fun e w'' => e = .returned (.bool b) ∧ Below w'.heap.size w' w'') := fun w' hb => by
    have := steady_any a a2 len len2 cap cap2 z z2 d w' (h.out.below hb) (h2.out.below hb)
    rw [HB.out] at this
    exact this
  have R : Hid (∀ w', Below w.heap.size w w' → Calls Try.prog 27 #[.slice a len cap, .slice a2 len2 cap2, .int .i64 d] w' fun e w'' => e = .returned (.bool b) ∧ Below w'.heap.size w' w'') := fun w' hb => by
    have := rsteady_any a a2 len len2 cap cap2 z z2 d w' (h.out.below hb) (h2.out.below hb)
    rw [HB.out] at this
    exact this
  cases b
  all_goals
    go_enter Try.func8, Try.ntmps8
    go_wp2_with fail
    refine (awake4_any _).mono ?_
    rintro e w1 ⟨rfl, q1⟩
    go_wp2_with fail
    refine (S.out _ q1).mono ?_
    rintro e w2 ⟨rfl, h2⟩
    have q2 := q1.trans (h2.mono q1.size)
    go_wp2_with fail
    refine (R.out _ q2).mono ?_
    rintro e w3 ⟨rfl, h3⟩
    have q3 := q2.trans (h3.mono q2.size)
    go_wp2
    go_ret
    exact ⟨rfl, q3⟩
theorem walk (a : Option Addr) (len cap : Nat) (z : List Int) (a2 : Option Addr) (len2 cap2 : Nat) (z2 : List Int) (d : Int) (w : World) (h : IsRow .i64 w a len cap z) (h2 : IsRow .i64 w a2 len2 cap2 z2) (hd : I64 d) :
    Calls Try.prog 8 #[.slice a len cap, .slice a2 len2 cap2, .int .i64 d] w fun e w' => e = .returned (.bool true) ∧ Below w.heap.size w w' :=
  main a len cap _ a2 len2 cap2 _ d _ w rfl (holdsI_row h) (holdsI_row h2)

theorem own : ownKnob Try.prog.godebug = none := by kernel_rfl
theorem laidOut : laidOutB Try.prog = true := by kernel_rfl

set_option maxRecDepth 100000 in
theorem lifted (os : Os) (started : os.Started) (H : Type) (enc : TypeId × Value → H) :
    ReturnsInHanded {} Try.checked os 8 .any (Rows.clockSteadySpec.pre6 enc Try.prog Try.f8 Rows.clockSteadyRow.domain false) (Rows.clockSteadySpec.post enc Try.prog Try.f8 false true false false) := by
  refine returnsInHanded_of_change (C := Try.checked) own started (by kernel_rfl) Try.func8
    (ChangeSpec.witness6 (enc := enc) (C := Try.checked) false ⟨#[], #[.slice none 0 0, .slice none 0 0, .int .i64 0], []⟩ 8 (by kernel_rfl) (by kernel_rfl) (by kernel_rfl) (by kernel_rfl)) ?_
  intro W base args ds gs before hval0 hW hcnd _
  have hval : ∀ (j : Nat) t v, Try.f8.params[j]? = some t → args[j]? = some v → Value.okWide Try.prog W .any base t v := hval0
  have hW' := hW
  obtain ⟨p, q, hA0, hV, rfl, hfz, hnd⟩ := hW
  have hA : DataW.TrodAll enc Try.prog W 0 (fun _ => true) true Try.f8.params.toList args.toList ds p := hA0
  rw [Try.params8] at hA hval
  obtain ⟨v0, vs0, d0, ds0, p0, q0, hargs, rfl, rfl, h0, r0⟩ := trodAll_cons hA
  obtain ⟨v1, vs1, d1, ds1, p1, q1, rfl, rfl, rfl, h1, r1⟩ := trodAll_cons r0
  obtain ⟨v2, vs2, d2, ds2, p2, q2, rfl, rfl, rfl, h2, r2⟩ := trodAll_cons r1
  obtain ⟨rfl, rfl, rfl⟩ := trodAll_nil r2
  obtain rfl : args = #[v0, v1, v2] := by cases args; simp_all
  obtain ⟨rfl, rfl⟩ := trodVars_none hV
  have lt0 : ∀ x ∈ p0, x.block < W.heap.size := by obtain ⟨m, hm⟩ := h0; exact DataW.trod_lt m _ _ _ hm
  have lt1 : ∀ x ∈ p1, x.block < W.heap.size := by obtain ⟨m, hm⟩ := h1; exact DataW.trod_lt m _ _ _ hm
  have lt2 : ∀ x ∈ p2, x.block < W.heap.size := by obtain ⟨m, hm⟩ := h2; exact DataW.trod_lt m _ _ _ hm
  obtain ⟨a0, len0, cap0, rfl⟩ := okWide_slice Try.underlying22 (hval 0 22 v0 rfl rfl)
  obtain ⟨z0, w0⟩ := val_row Try.underlying22 Try.underlying2 (by kernel_rfl) h0
  obtain ⟨a1, len1, cap1, rfl⟩ := okWide_slice Try.underlying22 (hval 1 22 v1 rfl rfl)
  obtain ⟨z1, w1⟩ := val_row Try.underlying22 Try.underlying2 (by kernel_rfl) h1
  obtain ⟨a2, rfl, w2⟩ := val_i64 Try.underlying3 (hval 2 3 v2 rfl rfl) h2
  clear hA0 hval0
  refine (walk a0 len0 cap0 z0 a1 len1 cap1 z1 a2 W w0 w1 w2).mono fun e W' ⟨he, bel⟩ => ?_
  subst he
  exact ⟨_, rfl, _, _, _, [], _, [], hW', trodAll_mk1 (shut_bool Try.underlying4 _), (trodAll_cons_mk (Below.trod laidOut (by kernel_rfl) (of_decide_eq_true (by kernel_rfl)) h0 bel lt0) (trodAll_cons_mk (Below.trod laidOut (by kernel_rfl) (of_decide_eq_true (by kernel_rfl)) h1 bel lt1) (trodAll_cons_mk (Below.trod laidOut (by kernel_rfl) (of_decide_eq_true (by kernel_rfl)) h2 bel lt2) trodAll_mk0))), rfl, bel.frame _, fun h => by cases h⟩

theorem over : Rows.clockSteadyRow.holds Try.pinned (OpenSpec.ofChange Rows.clockSteadySpec) :=
  OpenClaim.holds_of_wide 8 Try.f8 rfl rfl rfl rfl rfl rfl rfl ⟨rfl, rfl, rfl, rfl, rfl⟩ rfl rfl rfl rfl rfl (by kernel_rfl) Try.func8 (by kernel_rfl)
    (of_decide_eq_true (by kernel_rfl)) (by unfold Func.isWrapper; first | (rw [if_pos (by decide +kernel)]; kernel_rfl) | (rw [if_neg (by decide +kernel)]; exact ⟨rfl, rfl⟩))
    (fun os started H enc _ => lifted os started H enc)

theorem proved : Rows.ClockSteadySaid := over
#print axioms proved
end Go.Proofs.Ytmdhcigkhapolaa.clockSteady
