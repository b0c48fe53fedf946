/- NumFloor: for all a, b, c of int64 the law's call returns true: MulDiv is the greatest number that isn't above the fraction. No further conditions. -/
import Derived.Test.YtmajoognpggcpaaWP
import Derived.Test.YtmajoognpggcpaaOpen
namespace Go.Proofs.Ytmajoognpggcpaa.numFloor
open Go.ChangeShapes Go.WideShapes Go.ChangeAt Go.RowKit
set_option linter.unusedVariables false

theorem floor_bd {n c : Int} (hc : 1 ≤ c) : n / c * c ≤ n ∧ n < (n / c + 1) * c := by
  have e := Int.mul_ediv_add_emod n c
  have r := Int.emod_nonneg n (show c ≠ 0 by omega)
  have r' := Int.emod_lt_of_pos n (show 0 < c by omega)
  rw [Int.add_mul, Int.mul_comm (n / c) c]
  omega

theorem cmp_ok (a b c d : Int) (ha : I64 a) (hb : I64 b) (hc : I64 c) (hd : I64 d) (h1 : 1 ≤ b) (h2 : 1 ≤ d) (w : World) :
    Calls Try.prog 26 #[.int .i64 a, .int .i64 b, .int .i64 c, .int .i64 d] w fun e w' => e = .returned (.tuple #[.int .i64 (ord (a * d) (c * b)), .int .i64 0]) ∧ Below w.heap.size w w' := by
  have h := cmp_any a b c d ha hb hc hd w
  rw [show cmpv a b c d = ord (a * d) (c * b) by unfold cmpv; rw [if_neg (by omega)], show cmpe b d = 0 by unfold cmpe; rw [if_neg (by omega)]] at h
  exact h

/-- MulDiv and Cmp as the law meets them. -/
def Md (a b c q e : Int) : Prop := ∀ w : World, Calls Try.prog 24 #[.int .i64 a, .int .i64 b, .int .i64 c] w fun r w' => r = .returned (.tuple #[.int .i64 q, .int .i64 e]) ∧ Below w.heap.size w w'
def Ans (a b c d X : Int) : Prop := ∀ w : World, Calls Try.prog 26 #[.int .i64 a, .int .i64 b, .int .i64 c, .int .i64 d] w fun e w' => e = .returned (.tuple #[.int .i64 X, .int .i64 0]) ∧ Below w.heap.size w w'

set_option maxHeartbeats 4000000 in
theorem main (a b c q : Int) (w : World) (hq : I64 q) (hc : 1 ≤ c) (hb : 1 ≤ b) (MD : Hid (Md a b c q 0)) (X Y : Int) (CX : Hid (Ans q b a c X)) (CY : Hid (q < 9223372036854775807 → Ans (q + 1) b a c Y)) (hX : X ≤ 0) (hY : 0 < Y) :
    Calls Try.prog 8 #[.int .i64 a, .int .i64 b, .int .i64 c] w fun e w' => e = .returned (.bool true) ∧ Below w.heap.size w w' := by
  obtain ⟨k1, k2⟩ := hq
  have t1 : decide (c < 1) = false := by simp; omega
  have t2 : decide (b < 1) = false := by simp; omega
  have t3 : decide (0 < X) = false := by simp; omega
  have t5 : decide (0 < Y) = true := by simp; omega
  by_cases hm : q = 9223372036854775807
  · have t4 : (q == 9223372036854775807) = true := by simp [hm]
    clear hm
    go_enter Try.func8, Try.ntmps8
    go_wp2_with fail
    refine (awake_any _).mono ?_
    rintro e w1 ⟨rfl, h1⟩
    go_wp2_with fail
    refine (MD.out _).mono ?_
    rintro e w2 ⟨rfl, h2⟩
    have q2 := h1.trans (h2.mono h1.size)

    go_wp2_with fail
    refine (CX.out _).mono ?_
    rintro e w3 ⟨rfl, h3⟩
    have q3 := q2.trans (h3.mono q2.size)
    go_wp2
    go_ret
    exact ⟨retb (by simp), q3⟩
  · have t4 : (q == 9223372036854775807) = false := by simp [hm]
    have CY := hid (CY.out (by omega))
    have k3 : q + 1 ≤ 9223372036854775807 := by omega
    clear hm
    go_enter Try.func8, Try.ntmps8
    go_wp2_with fail
    refine (awake_any _).mono ?_
    rintro e w1 ⟨rfl, h1⟩
    go_wp2_with fail
    refine (MD.out _).mono ?_
    rintro e w2 ⟨rfl, h2⟩
    have q2 := h1.trans (h2.mono h1.size)

    go_wp2_with fail
    refine (CX.out _).mono ?_
    rintro e w3 ⟨rfl, h3⟩
    have q3 := q2.trans (h3.mono q2.size)
    go_wp2_with fail
    refine (CY.out _).mono ?_
    rintro e w4 ⟨rfl, h4⟩
    have q4 := q3.trans (h4.mono q3.size)
    go_wp2
    go_ret
    exact ⟨retb (by simp), q4⟩

set_option maxHeartbeats 2000000 in
theorem walk (a b c : Int) (w : World) (ha : I64 a) (hb : I64 b) (hc : I64 c) :
    Calls Try.prog 8 #[.int .i64 a, .int .i64 b, .int .i64 c] w fun e w' => e = .returned (.bool true) ∧ Below w.heap.size w w' := by
  have M := fun w => muldiv_any a b c ha hb hc w
  by_cases h1 : c < 1
  · rw [show mdv a b c = 0 by unfold mdv; rw [if_pos h1], show mde a b c = 1 by unfold mde; rw [if_pos h1]] at M
    have MD := hid M
    clear M
    have t1 : decide (c < 1) = true := by simp; omega
    go_enter Try.func8, Try.ntmps8
    go_wp2_with fail
    refine (awake_any _).mono ?_
    rintro e w1 ⟨rfl, h1⟩
    go_wp2_with fail
    refine (MD.out _).mono ?_
    rintro e w2 ⟨rfl, h2⟩
    have q2 := h1.trans (h2.mono h1.size)

    go_wp2
    go_ret
    exact ⟨retb (by simp), q2⟩
  · rw [show mdv a b c = nv (a * b / c) by unfold mdv; rw [if_neg h1], show mde a b c = ne (a * b / c) by unfold mde; rw [if_neg h1]] at M
    have t1 : decide (c < 1) = false := by simp; omega
    by_cases hr : -9223372036854775808 ≤ a * b / c ∧ a * b / c ≤ 9223372036854775807
    · rw [nv_in hr.1 hr.2, ne_in hr.1 hr.2] at M
      by_cases h2 : b < 1
      · have MD := hid M
        have t2 : decide (b < 1) = true := by simp; omega
        clear M
        go_enter Try.func8, Try.ntmps8
        go_wp2_with fail
        refine (awake_any _).mono ?_
        rintro e w1 ⟨rfl, h1⟩
        go_wp2_with fail
        refine (MD.out _).mono ?_
        rintro e w2 ⟨rfl, h2⟩
        have q2 := h1.trans (h2.mono h1.size)

        go_wp2
        go_ret
        exact ⟨retb (by simp), q2⟩
      · obtain ⟨f1, f2⟩ := floor_bd (n := a * b) (c := c) (by omega)
        refine main a b c (a * b / c) w hr (by omega) (by omega) M _ _ (fun w => cmp_ok _ _ _ _ hr hb ha hc (by omega) (by omega) w) (fun hlt w => cmp_ok _ _ _ _ (by unfold I64; omega) hb ha hc (by omega) (by omega) w) ?_ ?_
        · unfold ord; repeat' split <;> omega
        · unfold ord; repeat' split <;> omega
    · rw [show nv (a * b / c) = 0 by unfold nv; rw [if_neg hr], show ne (a * b / c) = 2 by unfold ne; rw [if_neg hr]] at M
      have MD := hid M
      clear M hr
      go_enter Try.func8, Try.ntmps8
      go_wp2_with fail
      refine (awake_any _).mono ?_
      rintro e w1 ⟨rfl, h1⟩
      go_wp2_with fail
      refine (MD.out _).mono ?_
      rintro e w2 ⟨rfl, h2⟩
      have q2 := h1.trans (h2.mono h1.size)

      go_wp2
      go_ret
      exact ⟨retb (by simp), q2⟩

theorem own : ownKnob Try.prog.godebug = none := by kernel_rfl
theorem laidOut : laidOutB Try.prog = true := by kernel_rfl

set_option maxRecDepth 100000 in
theorem lifted (os : Os) (started : os.Started) (H : Type) (enc : TypeId × Value → H) :
    ReturnsInHanded {} Try.checked os 8 .any (Rows.numFloorSpec.pre6 enc Try.prog Try.f8 Rows.numFloorRow.domain false) (Rows.numFloorSpec.post enc Try.prog Try.f8 false true false false) := by
  refine returnsInHanded_of_change (C := Try.checked) own started (by kernel_rfl) Try.func8
    (ChangeSpec.witness6 (enc := enc) (C := Try.checked) false ⟨#[], #[.int .i64 0, .int .i64 0, .int .i64 0], []⟩ 8 (by kernel_rfl) (by kernel_rfl) (by kernel_rfl) (by kernel_rfl)) ?_
  intro W base args ds gs before hval0 hW hcnd _
  have hval : ∀ (j : Nat) t v, Try.f8.params[j]? = some t → args[j]? = some v → Value.okWide Try.prog W .any base t v := hval0
  have hW' := hW
  obtain ⟨p, q, hA0, hV, rfl, hfz, hnd⟩ := hW
  have hA : DataW.TrodAll enc Try.prog W 0 (fun _ => true) true Try.f8.params.toList args.toList ds p := hA0
  rw [Try.params8] at hA hval
  obtain ⟨v0, vs0, d0, ds0, p0, q0, hargs, rfl, rfl, h0, r0⟩ := trodAll_cons hA
  obtain ⟨v1, vs1, d1, ds1, p1, q1, rfl, rfl, rfl, h1, r1⟩ := trodAll_cons r0
  obtain ⟨v2, vs2, d2, ds2, p2, q2, rfl, rfl, rfl, h2, r2⟩ := trodAll_cons r1
  obtain ⟨rfl, rfl, rfl⟩ := trodAll_nil r2
  obtain rfl : args = #[v0, v1, v2] := by cases args; simp_all
  obtain ⟨rfl, rfl⟩ := trodVars_none hV
  have lt0 : ∀ x ∈ p0, x.block < W.heap.size := by obtain ⟨m, hm⟩ := h0; exact DataW.trod_lt m _ _ _ hm
  have lt1 : ∀ x ∈ p1, x.block < W.heap.size := by obtain ⟨m, hm⟩ := h1; exact DataW.trod_lt m _ _ _ hm
  have lt2 : ∀ x ∈ p2, x.block < W.heap.size := by obtain ⟨m, hm⟩ := h2; exact DataW.trod_lt m _ _ _ hm
  obtain ⟨a0, rfl, w0⟩ := val_i64 Try.underlying2 (hval 0 2 v0 rfl rfl) h0
  obtain ⟨a1, rfl, w1⟩ := val_i64 Try.underlying2 (hval 1 2 v1 rfl rfl) h1
  obtain ⟨a2, rfl, w2⟩ := val_i64 Try.underlying2 (hval 2 2 v2 rfl rfl) h2
  clear hA0 hval0
  refine (walk a0 a1 a2 W w0 w1 w2).mono fun e W' ⟨he, bel⟩ => ?_
  subst he
  exact ⟨_, rfl, _, _, _, [], _, [], hW', trodAll_mk1 (shut_bool Try.underlying4 _), (trodAll_cons_mk (Below.trod laidOut (by kernel_rfl) (of_decide_eq_true (by kernel_rfl)) h0 bel lt0) (trodAll_cons_mk (Below.trod laidOut (by kernel_rfl) (of_decide_eq_true (by kernel_rfl)) h1 bel lt1) (trodAll_cons_mk (Below.trod laidOut (by kernel_rfl) (of_decide_eq_true (by kernel_rfl)) h2 bel lt2) trodAll_mk0))), rfl, bel.frame _, fun h => by cases h⟩

theorem over : Rows.numFloorRow.holds Try.pinned (OpenSpec.ofChange Rows.numFloorSpec) :=
  OpenClaim.holds_of_wide 8 Try.f8 rfl rfl rfl rfl rfl rfl rfl ⟨rfl, rfl, rfl, rfl, rfl⟩ rfl rfl rfl rfl rfl (by kernel_rfl) Try.func8 (by kernel_rfl)
    (of_decide_eq_true (by kernel_rfl)) (by unfold Func.isWrapper; first | (rw [if_pos (by decide +kernel)]; kernel_rfl) | (rw [if_neg (by decide +kernel)]; exact ⟨rfl, rfl⟩))
    (fun os started H enc _ => lifted os started H enc)

theorem proved : Rows.NumFloorSaid := over
#print axioms proved
end Go.Proofs.Ytmajoognpggcpaa.numFloor
