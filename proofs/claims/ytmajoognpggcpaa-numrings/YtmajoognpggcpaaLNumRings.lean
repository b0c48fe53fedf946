/- NumRings: for all a, b, c of int64 the law's call returns true: sums and products don't hang on order, and so on. No further conditions. -/
import Derived.Test.YtmajoognpggcpaaWK
import Derived.Test.YtmajoognpggcpaaOpen
namespace Go.Proofs.Ytmajoognpggcpaa.numRings
open Go.ChangeShapes Go.WideShapes Go.ChangeAt Go.RowKit
set_option linter.unusedVariables false

theorem ne_cases (n : Int) : (ne n = 0 ∧ nv n = n ∧ -9223372036854775808 ≤ n ∧ n ≤ 9223372036854775807) ∨ (ne n = 2) := by
  by_cases h : -9223372036854775808 ≤ n ∧ n ≤ 9223372036854775807
  · exact .inl ⟨ne_in h.1 h.2, nv_in h.1 h.2, h.1, h.2⟩
  · right; unfold ne; rw [if_neg h]

set_option maxHeartbeats 2000000 in
theorem walk (a b c : Int) (w : World) (ha : I64 a) (hb : I64 b) (hc : I64 c) :
    Calls Try.prog 7 #[.int .i64 a, .int .i64 b, .int .i64 c] w fun e w' => e = .returned (.bool true) ∧ Below w.heap.size w w' := by
  have AC := fun w => add_any b a hb ha w
  rw [Int.add_comm b a] at AC
  have AC := hid AC
  rename_i AC0
  clear AC0
  have MC := fun w => mul_any b a hb ha w
  rw [Int.mul_comm b a] at MC
  have MC := hid MC
  rename_i MC0
  clear MC0
  rcases ne_cases (a + b) with ⟨e0, v0, _⟩ | e0
  · have SB : Hid (∀ w : World, Calls Try.prog 17 #[.int .i64 (nv (a + b)), .int .i64 b] w fun e w' => e = .returned (.tuple #[.int .i64 a, .int .i64 0]) ∧ w = w') := by
      intro w
      have h := sub_any (nv (a + b)) b (nv_I64 _) hb w
      rw [show nv (a + b) - b = a by rw [v0]; omega, nv_in ha.1 ha.2, ne_in ha.1 ha.2] at h
      exact h
    have t0 : (ne (a + b) == 0) = true := by simp [e0]
    have t1 : (ne (a + b) != 0) = false := by simp [e0]
    rcases ne_cases (nv (a + b) * c) with ⟨e1, v1, _⟩ | e1
    · have t2 : (ne (nv (a + b) * c) != 0) = false := by simp [e1]
      rcases ne_cases (a * c) with ⟨e2, v2, _⟩ | e2
      · have t3 : (ne (a * c) != 0) = false := by simp [e2]
        rcases ne_cases (b * c) with ⟨e3, v3, _⟩ | e3
        · have t4 : (ne (b * c) != 0) = false := by simp [e3]
          have es : nv (a * c) + nv (b * c) = nv (a + b) * c := by rw [v2, v3, v0, Int.add_mul]
          have t5 : (ne (nv (a * c) + nv (b * c)) == 0) = true := by rw [es]; simp [e1]
          have t6 : (nv (nv (a * c) + nv (b * c)) == nv (nv (a + b) * c)) = true := by rw [es]; simp
          clear e0 v0 e1 v1 e2 v2 e3 v3 es
          go_enter Try.func7, Try.ntmps7
          go_wp2_with fail
          refine (awake_any _).mono ?_
          rintro e w1 ⟨rfl, h1⟩
          go_wp2_with fail
          refine (add_any a b ha hb _).mono ?_
          rintro e w2 ⟨rfl, rfl⟩
          go_wp2_with fail
          refine (AC.out _).mono ?_
          rintro e w3 ⟨rfl, rfl⟩
          go_wp2_with fail
          refine (mul_any a b ha hb _).mono ?_
          rintro e w4 ⟨rfl, h4⟩
          go_wp2_with fail
          refine (MC.out _).mono ?_
          rintro e w5 ⟨rfl, h5⟩
          go_wp2_with fail
          refine (SB.out _).mono ?_
          rintro e wb ⟨rfl, rfl⟩
          go_wp2_with fail
          refine (mul_any _ c (nv_I64 _) hc _).mono ?_
          rintro e w6 ⟨rfl, h6⟩
          go_wp2_with fail
          refine (mul_any a c ha hc _).mono ?_
          rintro e w7 ⟨rfl, h7⟩
          go_wp2_with fail
          refine (mul_any b c hb hc _).mono ?_
          rintro e w8 ⟨rfl, h8⟩
          go_wp2_with fail
          refine (add_any _ _ (nv_I64 _) (nv_I64 _) _).mono ?_
          rintro e w9 ⟨rfl, rfl⟩
          have q4 := h1.trans (h4.mono h1.size)
          have q5 := q4.trans (h5.mono q4.size)
          have q6 := q5.trans (h6.mono q5.size)
          have q7 := q6.trans (h7.mono q6.size)
          have q8 := q7.trans (h8.mono q7.size)
          go_wp2
          go_ret
          exact ⟨retb (by simp), q8⟩
        · have t4 : (ne (b * c) != 0) = true := by simp [e3]
          clear e0 v0 e1 v1 e2 v2 e3
          go_enter Try.func7, Try.ntmps7
          go_wp2_with fail
          refine (awake_any _).mono ?_
          rintro e w1 ⟨rfl, h1⟩
          go_wp2_with fail
          refine (add_any a b ha hb _).mono ?_
          rintro e w2 ⟨rfl, rfl⟩
          go_wp2_with fail
          refine (AC.out _).mono ?_
          rintro e w3 ⟨rfl, rfl⟩
          go_wp2_with fail
          refine (mul_any a b ha hb _).mono ?_
          rintro e w4 ⟨rfl, h4⟩
          go_wp2_with fail
          refine (MC.out _).mono ?_
          rintro e w5 ⟨rfl, h5⟩
          go_wp2_with fail
          refine (SB.out _).mono ?_
          rintro e wb ⟨rfl, rfl⟩
          go_wp2_with fail
          refine (mul_any _ c (nv_I64 _) hc _).mono ?_
          rintro e w6 ⟨rfl, h6⟩
          go_wp2_with fail
          refine (mul_any a c ha hc _).mono ?_
          rintro e w7 ⟨rfl, h7⟩
          go_wp2_with fail
          refine (mul_any b c hb hc _).mono ?_
          rintro e w8 ⟨rfl, h8⟩
          go_wp2_with fail
          refine (add_any _ _ (nv_I64 _) (nv_I64 _) _).mono ?_
          rintro e w9 ⟨rfl, rfl⟩
          have q4 := h1.trans (h4.mono h1.size)
          have q5 := q4.trans (h5.mono q4.size)
          have q6 := q5.trans (h6.mono q5.size)
          have q7 := q6.trans (h7.mono q6.size)
          have q8 := q7.trans (h8.mono q7.size)
          go_wp2
          go_ret
          exact ⟨retb (by simp), q8⟩
      · have t3 : (ne (a * c) != 0) = true := by simp [e2]
        clear e0 v0 e1 v1 e2
        go_enter Try.func7, Try.ntmps7
        go_wp2_with fail
        refine (awake_any _).mono ?_
        rintro e w1 ⟨rfl, h1⟩
        go_wp2_with fail
        refine (add_any a b ha hb _).mono ?_
        rintro e w2 ⟨rfl, rfl⟩
        go_wp2_with fail
        refine (AC.out _).mono ?_
        rintro e w3 ⟨rfl, rfl⟩
        go_wp2_with fail
        refine (mul_any a b ha hb _).mono ?_
        rintro e w4 ⟨rfl, h4⟩
        go_wp2_with fail
        refine (MC.out _).mono ?_
        rintro e w5 ⟨rfl, h5⟩
        go_wp2_with fail
        refine (SB.out _).mono ?_
        rintro e wb ⟨rfl, rfl⟩
        go_wp2_with fail
        refine (mul_any _ c (nv_I64 _) hc _).mono ?_
        rintro e w6 ⟨rfl, h6⟩
        go_wp2_with fail
        refine (mul_any a c ha hc _).mono ?_
        rintro e w7 ⟨rfl, h7⟩
        go_wp2_with fail
        refine (mul_any b c hb hc _).mono ?_
        rintro e w8 ⟨rfl, h8⟩
        go_wp2_with fail
        refine (add_any _ _ (nv_I64 _) (nv_I64 _) _).mono ?_
        rintro e w9 ⟨rfl, rfl⟩
        have q4 := h1.trans (h4.mono h1.size)
        have q5 := q4.trans (h5.mono q4.size)
        have q6 := q5.trans (h6.mono q5.size)
        have q7 := q6.trans (h7.mono q6.size)
        have q8 := q7.trans (h8.mono q7.size)
        go_wp2
        go_ret
        exact ⟨retb (by simp), q8⟩
    · have t2 : (ne (nv (a + b) * c) != 0) = true := by simp [e1]
      clear e0 v0 e1
      go_enter Try.func7, Try.ntmps7
      go_wp2_with fail
      refine (awake_any _).mono ?_
      rintro e w1 ⟨rfl, h1⟩
      go_wp2_with fail
      refine (add_any a b ha hb _).mono ?_
      rintro e w2 ⟨rfl, rfl⟩
      go_wp2_with fail
      refine (AC.out _).mono ?_
      rintro e w3 ⟨rfl, rfl⟩
      go_wp2_with fail
      refine (mul_any a b ha hb _).mono ?_
      rintro e w4 ⟨rfl, h4⟩
      go_wp2_with fail
      refine (MC.out _).mono ?_
      rintro e w5 ⟨rfl, h5⟩
      go_wp2_with fail
      refine (SB.out _).mono ?_
      rintro e wb ⟨rfl, rfl⟩
      go_wp2_with fail
      refine (mul_any _ c (nv_I64 _) hc _).mono ?_
      rintro e w6 ⟨rfl, h6⟩
      go_wp2_with fail
      refine (mul_any a c ha hc _).mono ?_
      rintro e w7 ⟨rfl, h7⟩
      go_wp2_with fail
      refine (mul_any b c hb hc _).mono ?_
      rintro e w8 ⟨rfl, h8⟩
      go_wp2_with fail
      refine (add_any _ _ (nv_I64 _) (nv_I64 _) _).mono ?_
      rintro e w9 ⟨rfl, rfl⟩
      have q4 := h1.trans (h4.mono h1.size)
      have q5 := q4.trans (h5.mono q4.size)
      have q6 := q5.trans (h6.mono q5.size)
      have q7 := q6.trans (h7.mono q6.size)
      have q8 := q7.trans (h8.mono q7.size)
      go_wp2
      go_ret
      exact ⟨retb (by simp), q8⟩
  · have t0 : (ne (a + b) == 0) = false := by simp [e0]
    have t1 : (ne (a + b) != 0) = true := by simp [e0]
    clear e0
    go_enter Try.func7, Try.ntmps7
    go_wp2_with fail
    refine (awake_any _).mono ?_
    rintro e w1 ⟨rfl, h1⟩
    go_wp2_with fail
    refine (add_any a b ha hb _).mono ?_
    rintro e w2 ⟨rfl, rfl⟩
    go_wp2_with fail
    refine (AC.out _).mono ?_
    rintro e w3 ⟨rfl, rfl⟩
    go_wp2_with fail
    refine (mul_any a b ha hb _).mono ?_
    rintro e w4 ⟨rfl, h4⟩
    go_wp2_with fail
    refine (MC.out _).mono ?_
    rintro e w5 ⟨rfl, h5⟩
    go_wp2_with fail
    refine (mul_any _ c (nv_I64 _) hc _).mono ?_
    rintro e w6 ⟨rfl, h6⟩
    go_wp2_with fail
    refine (mul_any a c ha hc _).mono ?_
    rintro e w7 ⟨rfl, h7⟩
    go_wp2_with fail
    refine (mul_any b c hb hc _).mono ?_
    rintro e w8 ⟨rfl, h8⟩
    go_wp2_with fail
    refine (add_any _ _ (nv_I64 _) (nv_I64 _) _).mono ?_
    rintro e w9 ⟨rfl, rfl⟩
    have q4 := h1.trans (h4.mono h1.size)
    have q5 := q4.trans (h5.mono q4.size)
    have q6 := q5.trans (h6.mono q5.size)
    have q7 := q6.trans (h7.mono q6.size)
    have q8 := q7.trans (h8.mono q7.size)
    go_wp2
    go_ret
    exact ⟨retb (by simp), q8⟩

theorem own : ownKnob Try.prog.godebug = none := by kernel_rfl
theorem laidOut : laidOutB Try.prog = true := by kernel_rfl

set_option maxRecDepth 100000 in
theorem lifted (os : Os) (started : os.Started) (H : Type) (enc : TypeId × Value → H) :
    ReturnsInHanded {} Try.checked os 7 .any (Rows.numRingsSpec.pre6 enc Try.prog Try.f7 Rows.numRingsRow.domain false) (Rows.numRingsSpec.post enc Try.prog Try.f7 false true false false) := by
  refine returnsInHanded_of_change (C := Try.checked) own started (by kernel_rfl) Try.func7
    (ChangeSpec.witness6 (enc := enc) (C := Try.checked) false ⟨#[], #[.int .i64 0, .int .i64 0, .int .i64 0], []⟩ 8 (by kernel_rfl) (by kernel_rfl) (by kernel_rfl) (by kernel_rfl)) ?_
  intro W base args ds gs before hval0 hW hcnd _
  have hval : ∀ (j : Nat) t v, Try.f7.params[j]? = some t → args[j]? = some v → Value.okWide Try.prog W .any base t v := hval0
  have hW' := hW
  obtain ⟨p, q, hA0, hV, rfl, hfz, hnd⟩ := hW
  have hA : DataW.TrodAll enc Try.prog W 0 (fun _ => true) true Try.f7.params.toList args.toList ds p := hA0
  rw [Try.params7] at hA hval
  obtain ⟨v0, vs0, d0, ds0, p0, q0, hargs, rfl, rfl, h0, r0⟩ := trodAll_cons hA
  obtain ⟨v1, vs1, d1, ds1, p1, q1, rfl, rfl, rfl, h1, r1⟩ := trodAll_cons r0
  obtain ⟨v2, vs2, d2, ds2, p2, q2, rfl, rfl, rfl, h2, r2⟩ := trodAll_cons r1
  obtain ⟨rfl, rfl, rfl⟩ := trodAll_nil r2
  obtain rfl : args = #[v0, v1, v2] := by cases args; simp_all
  obtain ⟨rfl, rfl⟩ := trodVars_none hV
  have lt0 : ∀ x ∈ p0, x.block < W.heap.size := by obtain ⟨m, hm⟩ := h0; exact DataW.trod_lt m _ _ _ hm
  have lt1 : ∀ x ∈ p1, x.block < W.heap.size := by obtain ⟨m, hm⟩ := h1; exact DataW.trod_lt m _ _ _ hm
  have lt2 : ∀ x ∈ p2, x.block < W.heap.size := by obtain ⟨m, hm⟩ := h2; exact DataW.trod_lt m _ _ _ hm
  obtain ⟨a0, rfl, w0⟩ := val_i64 Try.underlying2 (hval 0 2 v0 rfl rfl) h0
  obtain ⟨a1, rfl, w1⟩ := val_i64 Try.underlying2 (hval 1 2 v1 rfl rfl) h1
  obtain ⟨a2, rfl, w2⟩ := val_i64 Try.underlying2 (hval 2 2 v2 rfl rfl) h2
  clear hA0 hval0
  refine (walk a0 a1 a2 W w0 w1 w2).mono fun e W' ⟨he, bel⟩ => ?_
  subst he
  exact ⟨_, rfl, _, _, _, [], _, [], hW', trodAll_mk1 (shut_bool Try.underlying4 _), (trodAll_cons_mk (Below.trod laidOut (by kernel_rfl) (of_decide_eq_true (by kernel_rfl)) h0 bel lt0) (trodAll_cons_mk (Below.trod laidOut (by kernel_rfl) (of_decide_eq_true (by kernel_rfl)) h1 bel lt1) (trodAll_cons_mk (Below.trod laidOut (by kernel_rfl) (of_decide_eq_true (by kernel_rfl)) h2 bel lt2) trodAll_mk0))), rfl, bel.frame _, fun h => by cases h⟩

theorem over : Rows.numRingsRow.holds Try.pinned (OpenSpec.ofChange Rows.numRingsSpec) :=
  OpenClaim.holds_of_wide 7 Try.f7 rfl rfl rfl rfl rfl rfl rfl ⟨rfl, rfl, rfl, rfl, rfl⟩ rfl rfl rfl rfl rfl (by kernel_rfl) Try.func7 (by kernel_rfl)
    (of_decide_eq_true (by kernel_rfl)) (by unfold Func.isWrapper; first | (rw [if_pos (by decide +kernel)]; kernel_rfl) | (rw [if_neg (by decide +kernel)]; exact ⟨rfl, rfl⟩))
    (fun os started H enc _ => lifted os started H enc)

theorem proved : Rows.NumRingsSaid := over
#print axioms proved
end Go.Proofs.Ytmajoognpggcpaa.numRings
