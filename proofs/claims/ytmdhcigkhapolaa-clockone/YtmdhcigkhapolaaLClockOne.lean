/- ClockOne: for all dt, inc of int64 and all drifts the law's call returns true: without drift a clock goes as time does alone, and a greater drift allows no less. No further conditions. -/
import Derived.Test.YtmdhcigkhapolaaKC
namespace Go.Proofs.Ytmdhcigkhapolaa.clockOne
open Go.ChangeShapes Go.WideShapes Go.ChangeAt Go.RowKit
set_option linter.unusedVariables false

set_option maxHeartbeats 1000000 in
theorem bad (t i d : Int) (w : World) (H : Hid ((okl t && okl i) = false)) :
    Calls Try.prog 11 #[.int .i64 t, .int .i64 i, .int .i64 d] w fun e w' => e = .returned (.bool true) ∧ Below w.heap.size w w' := by
  have E1 : Hid (withB t i d = false) := by unfold withB; rw [H.out]; rfl
  by_cases ha : t < 0
  · have ta : decide (t < 0) = true := by simp; omega
    go_enter Try.func11, Try.ntmps11
    go_wp2_with fail
    refine (awake4_any _).mono ?_
    rintro e x0 ⟨rfl, q0⟩
    go_wp2_with fail
    refine (within_v t i d false E1.out _).mono ?_
    rintro e x1 ⟨rfl, h1⟩
    have q1 := q0.trans (h1.mono q0.size)
    go_wp2
    go_ret
    exact ⟨rfl, q1⟩
  · have ta : decide (t < 0) = false := by simp; omega
    by_cases hb : 1099511627776 < t
    · have tb : decide (1099511627776 < t) = true := by simp; omega
      go_enter Try.func11, Try.ntmps11
      go_wp2_with fail
      refine (awake4_any _).mono ?_
      rintro e x0 ⟨rfl, q0⟩
      go_wp2_with fail
      refine (within_v t i d false E1.out _).mono ?_
      rintro e x1 ⟨rfl, h1⟩
      have q1 := q0.trans (h1.mono q0.size)
      go_wp2
      go_ret
      exact ⟨rfl, q1⟩
    · have tb : decide (1099511627776 < t) = false := by simp; omega
      by_cases hc : i < 0
      · have tc : decide (i < 0) = true := by simp; omega
        go_enter Try.func11, Try.ntmps11
        go_wp2_with fail
        refine (awake4_any _).mono ?_
        rintro e x0 ⟨rfl, q0⟩
        go_wp2_with fail
        refine (within_v t i d false E1.out _).mono ?_
        rintro e x1 ⟨rfl, h1⟩
        have q1 := q0.trans (h1.mono q0.size)
        go_wp2
        go_ret
        exact ⟨rfl, q1⟩
      · have tc : decide (i < 0) = false := by simp; omega
        have t9 : decide (1099511627776 < i) = true := by
          have := H.out; simp [okl] at this; simp; omega
        go_enter Try.func11, Try.ntmps11
        go_wp2_with fail
        refine (awake4_any _).mono ?_
        rintro e x0 ⟨rfl, q0⟩
        go_wp2_with fail
        refine (within_v t i d false E1.out _).mono ?_
        rintro e x1 ⟨rfl, h1⟩
        have q1 := q0.trans (h1.mono q0.size)
        go_wp2
        go_ret
        exact ⟨rfl, q1⟩

theorem zero (t i : Int) (x0 : 0 ≤ t) (x1 : t ≤ 1099511627776) (y0 : 0 ≤ i) (y1 : i ≤ 1099511627776) : withB t i 0 = (t == i) := by
  have o1 : okl t = true := by simp [okl]; omega
  have o2 : okl i = true := by simp [okl]; omega
  have o3 : okd 0 = true := by decide
  unfold withB
  rw [o1, o2, o3, Bool.eq_iff_iff]
  simp
  omega
theorem more (t i d : Int) (h : withB t i d = true) (hd : d < 999) : withB t i (d + 1) = true := by
  simp only [withB, Bool.and_eq_true, decide_eq_true_eq] at h ⊢
  obtain ⟨⟨⟨⟨h1, h2⟩, h3⟩, h4⟩, h5⟩ := h
  have a := okl_t h1
  have c := okd_t h3
  refine ⟨⟨⟨⟨h1, h2⟩, by simp [okd]; omega⟩, ?_⟩, ?_⟩
  · refine Int.le_trans ?_ h4
    exact Int.mul_le_mul_of_nonneg_right (by omega) a.1
  · refine Int.le_trans h5 ?_
    exact Int.mul_le_mul_of_nonneg_right (by omega) a.1

set_option maxHeartbeats 1000000 in
theorem good (t i d : Int) (w : World) (x0 : 0 ≤ t) (x1 : t ≤ 1099511627776) (y0 : 0 ≤ i) (y1 : i ≤ 1099511627776) (hd : I64 d) (b : Bool) (tz : (t == i) = b) :
    Calls Try.prog 11 #[.int .i64 t, .int .i64 i, .int .i64 d] w fun e w' => e = .returned (.bool true) ∧ Below w.heap.size w w' := by
  have ta : decide (t < 0) = false := by simp; omega
  have tb : decide (1099511627776 < t) = false := by simp; omega
  have tc : decide (i < 0) = false := by simp; omega
  have te : decide (1099511627776 < i) = false := by simp; omega
  have Z : Hid (withB t i 0 = b) := (zero t i x0 x1 y0 y1).trans tz
  obtain ⟨d0, d1⟩ := hd
  cases b
  all_goals
    by_cases g1 : d < 0
    · have t1 : decide (d < 0) = true := by simp; omega
      go_enter Try.func11, Try.ntmps11
      go_wp2_with fail
      refine (awake4_any _).mono ?_
      rintro e x0 ⟨rfl, q0⟩
      go_wp2_with fail
      refine (within_v t i 0 _ Z.out _).mono ?_
      rintro e x1 ⟨rfl, h1⟩
      have q1 := q0.trans (h1.mono q0.size)
      go_wp2
      go_ret
      exact ⟨rfl, q1⟩
    · have t1 : decide (d < 0) = false := by simp; omega
      by_cases g2 : 999 ≤ d
      · have t2 : decide (999 ≤ d) = true := by simp; omega
        go_enter Try.func11, Try.ntmps11
        go_wp2_with fail
        refine (awake4_any _).mono ?_
        rintro e x0 ⟨rfl, q0⟩
        go_wp2_with fail
        refine (within_v t i 0 _ Z.out _).mono ?_
        rintro e x1 ⟨rfl, h1⟩
        have q1 := q0.trans (h1.mono q0.size)
        go_wp2
        go_ret
        exact ⟨rfl, q1⟩
      · have t2 : decide (999 ≤ d) = false := by simp; omega
        cases hw : withB t i d
        · have HW := hid hw
          clear hw
          go_enter Try.func11, Try.ntmps11
          go_wp2_with fail
          refine (awake4_any _).mono ?_
          rintro e x0 ⟨rfl, q0⟩
          go_wp2_with fail
          refine (within_v t i 0 _ Z.out _).mono ?_
          rintro e x1 ⟨rfl, h1⟩
          have q1 := q0.trans (h1.mono q0.size)
          go_wp2_with fail
          refine (within_v t i d false HW.out _).mono ?_
          rintro e x2 ⟨rfl, h2⟩
          have q2 := q1.trans (h2.mono q1.size)
          go_wp2
          go_ret
          exact ⟨rfl, q2⟩
        · have HW := hid hw
          have HM := hid (more t i d hw (by omega))
          clear hw
          go_enter Try.func11, Try.ntmps11
          go_wp2_with fail
          refine (awake4_any _).mono ?_
          rintro e x0 ⟨rfl, q0⟩
          go_wp2_with fail
          refine (within_v t i 0 _ Z.out _).mono ?_
          rintro e x1 ⟨rfl, h1⟩
          have q1 := q0.trans (h1.mono q0.size)
          go_wp2_with fail
          refine (within_v t i d true HW.out _).mono ?_
          rintro e x2 ⟨rfl, h2⟩
          have q2 := q1.trans (h2.mono q1.size)
          go_wp2_with fail
          refine (within_v t i (d + 1) true HM.out _).mono ?_
          rintro e x3 ⟨rfl, h3⟩
          have q3 := q2.trans (h3.mono q2.size)
          go_wp2
          go_ret
          exact ⟨rfl, q3⟩

theorem walk (t i d : Int) (w : World) (ht : I64 t) (hi : I64 i) (hd : I64 d) :
    Calls Try.prog 11 #[.int .i64 t, .int .i64 i, .int .i64 d] w fun e w' => e = .returned (.bool true) ∧ Below w.heap.size w w' := by
  cases h : (okl t && okl i)
  · exact bad t i d w h
  · obtain ⟨h1, h2⟩ : okl t = true ∧ okl i = true := by simpa using h
    have a := okl_t h1
    have c := okl_t h2
    exact good t i d w a.1 a.2 c.1 c.2 hd _ rfl

theorem own : ownKnob Try.prog.godebug = none := by kernel_rfl
theorem laidOut : laidOutB Try.prog = true := by kernel_rfl

set_option maxRecDepth 100000 in
theorem lifted (os : Os) (started : os.Started) (H : Type) (enc : TypeId × Value → H) :
    ReturnsInHanded {} Try.checked os 11 .any (Rows.clockOneSpec.pre6 enc Try.prog Try.f11 Rows.clockOneRow.domain false) (Rows.clockOneSpec.post enc Try.prog Try.f11 false true false false) := by
  refine returnsInHanded_of_change (C := Try.checked) own started (by kernel_rfl) Try.func11
    (ChangeSpec.witness6 (enc := enc) (C := Try.checked) false ⟨#[], #[.int .i64 0, .int .i64 0, .int .i64 0], []⟩ 8 (by kernel_rfl) (by kernel_rfl) (by kernel_rfl) (by kernel_rfl)) ?_
  intro W base args ds gs before hval0 hW hcnd _
  have hval : ∀ (j : Nat) t v, Try.f11.params[j]? = some t → args[j]? = some v → Value.okWide Try.prog W .any base t v := hval0
  have hW' := hW
  obtain ⟨p, q, hA0, hV, rfl, hfz, hnd⟩ := hW
  have hA : DataW.TrodAll enc Try.prog W 0 (fun _ => true) true Try.f11.params.toList args.toList ds p := hA0
  rw [Try.params11] at hA hval
  obtain ⟨v0, vs0, d0, ds0, p0, q0, hargs, rfl, rfl, h0, r0⟩ := trodAll_cons hA
  obtain ⟨v1, vs1, d1, ds1, p1, q1, rfl, rfl, rfl, h1, r1⟩ := trodAll_cons r0
  obtain ⟨v2, vs2, d2, ds2, p2, q2, rfl, rfl, rfl, h2, r2⟩ := trodAll_cons r1
  obtain ⟨rfl, rfl, rfl⟩ := trodAll_nil r2
  obtain rfl : args = #[v0, v1, v2] := by cases args; simp_all
  obtain ⟨rfl, rfl⟩ := trodVars_none hV
  have lt0 : ∀ x ∈ p0, x.block < W.heap.size := by obtain ⟨m, hm⟩ := h0; exact DataW.trod_lt m _ _ _ hm
  have lt1 : ∀ x ∈ p1, x.block < W.heap.size := by obtain ⟨m, hm⟩ := h1; exact DataW.trod_lt m _ _ _ hm
  have lt2 : ∀ x ∈ p2, x.block < W.heap.size := by obtain ⟨m, hm⟩ := h2; exact DataW.trod_lt m _ _ _ hm
  obtain ⟨a0, rfl, w0⟩ := val_i64 Try.underlying2 (hval 0 2 v0 rfl rfl) h0
  obtain ⟨a1, rfl, w1⟩ := val_i64 Try.underlying2 (hval 1 2 v1 rfl rfl) h1
  obtain ⟨a2, rfl, w2⟩ := val_i64 Try.underlying3 (hval 2 3 v2 rfl rfl) h2
  clear hA0 hval0
  refine (walk a0 a1 a2 W w0 w1 w2).mono fun e W' ⟨he, bel⟩ => ?_
  subst he
  exact ⟨_, rfl, _, _, _, [], _, [], hW', trodAll_mk1 (shut_bool Try.underlying4 _), (trodAll_cons_mk (Below.trod laidOut (by kernel_rfl) (of_decide_eq_true (by kernel_rfl)) h0 bel lt0) (trodAll_cons_mk (Below.trod laidOut (by kernel_rfl) (of_decide_eq_true (by kernel_rfl)) h1 bel lt1) (trodAll_cons_mk (Below.trod laidOut (by kernel_rfl) (of_decide_eq_true (by kernel_rfl)) h2 bel lt2) trodAll_mk0))), rfl, bel.frame _, fun h => by cases h⟩

theorem over : Rows.clockOneRow.holds Try.pinned (OpenSpec.ofChange Rows.clockOneSpec) :=
  OpenClaim.holds_of_wide 11 Try.f11 rfl rfl rfl rfl rfl rfl rfl ⟨rfl, rfl, rfl, rfl, rfl⟩ rfl rfl rfl rfl rfl (by kernel_rfl) Try.func11 (by kernel_rfl)
    (of_decide_eq_true (by kernel_rfl)) (by unfold Func.isWrapper; first | (rw [if_pos (by decide +kernel)]; kernel_rfl) | (rw [if_neg (by decide +kernel)]; exact ⟨rfl, rfl⟩))
    (fun os started H enc _ => lifted os started H enc)

theorem proved : Rows.ClockOneSaid := over
#print axioms proved
end Go.Proofs.Ytmdhcigkhapolaa.clockOne
