/- NumParts: for all a, b of int64 the law's call returns true: the greatest common divisor divides both, and so on. No further conditions. -/
import Derived.Test.YtmajoognpggcpaaWK
import Derived.Test.YtmajoognpggcpaaWQ
import Derived.Test.YtmajoognpggcpaaOpen
namespace Go.Proofs.Ytmajoognpggcpaa.numParts
open Go.ChangeShapes Go.WideShapes Go.ChangeAt Go.RowKit
set_option linter.unusedVariables false

theorem gcdv_ne {a b : Int} (h : gcdv a b ≠ 0) : gcdv a b = (Nat.gcd a.natAbs b.natAbs : Int) ∧ 0 < Nat.gcd a.natAbs b.natAbs := by
  unfold gcdv at h ⊢
  split
  · rename_i h'; rw [if_pos h'] at h; omega
  · rename_i h'; rw [if_neg h'] at h; exact ⟨rfl, by omega⟩
theorem gcdv_comm (a b : Int) : gcdv b a = gcdv a b := by unfold gcdv; rw [Nat.gcd_comm]
theorem dvd_small {x : Nat} (h : 9223372036854775808 ∣ x) (hx : x ≤ 9223372036854775808) : x = 0 ∨ x = 9223372036854775808 := by
  obtain ⟨k, rfl⟩ := h
  omega
theorem gcdv_zero {a b : Int} (ha : I64 a) (hb : I64 b) (h : gcdv a b = 0) : (a = 0 ∨ a = -9223372036854775808) ∧ (b = 0 ∨ b = -9223372036854775808) := by
  unfold gcdv at h
  have ba := natAbs_le ha
  have bb := natAbs_le hb
  unfold I64 at ha hb
  split at h
  · rename_i h'
    have d1 : 9223372036854775808 ∣ a.natAbs := by rw [← h']; exact Nat.gcd_dvd_left _ _
    have d2 : 9223372036854775808 ∣ b.natAbs := by rw [← h']; exact Nat.gcd_dvd_right _ _
    have := dvd_small d1 ba
    have := dvd_small d2 bb
    omega
  · have h' : Nat.gcd a.natAbs b.natAbs = 0 := by omega
    have z1 := Nat.eq_zero_of_gcd_eq_zero_left h'
    have z2 := Nat.eq_zero_of_gcd_eq_zero_right h'
    omega

theorem parts_main {a b : Int} (ha : I64 a) (hb : I64 b) (h : gcdv a b ≠ 0) :
    a.tmod (gcdv a b) = 0 ∧ b.tmod (gcdv a b) = 0 ∧ I64 (a.tdiv (gcdv a b)) ∧ I64 (b.tdiv (gcdv a b)) ∧ gcdv (a.tdiv (gcdv a b)) (b.tdiv (gcdv a b)) = 1 := by
  obtain ⟨e, p⟩ := gcdv_ne h
  have d1 : gcdv a b ∣ a := by rw [e]; exact Int.ofNat_dvd_left.2 (Nat.gcd_dvd_left _ _)
  have d2 : gcdv a b ∣ b := by rw [e]; exact Int.ofNat_dvd_left.2 (Nat.gcd_dvd_right _ _)
  have bd : ∀ {x g : Int}, I64 x → 1 ≤ g → g ∣ x → I64 (x.tdiv g) := by
    intro x g hx hg hd
    have m := Int.tdiv_mul_cancel hd
    unfold I64 at hx ⊢
    generalize x.tdiv g = A at m ⊢
    by_cases hA : 0 ≤ A
    · have := Int.mul_le_mul_of_nonneg_left hg hA
      omega
    · have := Int.mul_le_mul_of_nonpos_left (a := A) (show A ≤ 0 by omega) hg
      omega
  refine ⟨Int.tmod_eq_zero_of_dvd d1, Int.tmod_eq_zero_of_dvd d2, bd ha (by omega) d1, bd hb (by omega) d2, ?_⟩
  have key : Nat.gcd (a.tdiv (gcdv a b)).natAbs (b.tdiv (gcdv a b)).natAbs = 1 := by
    rw [Int.natAbs_tdiv, Int.natAbs_tdiv, e, Int.natAbs_natCast]
    show Nat.gcd (a.natAbs / Nat.gcd a.natAbs b.natAbs) (b.natAbs / Nat.gcd a.natAbs b.natAbs) = 1
    by_cases z : 0 < a.natAbs
    · exact Nat.gcd_div_gcd_div_gcd_of_pos_left z
    · have z0 : a.natAbs = 0 := by omega
      rw [z0, Nat.gcd_zero_left] at p ⊢
      rw [Nat.zero_div, Nat.gcd_zero_left, Nat.div_self p]
  unfold gcdv at key ⊢
  rw [key]
  decide

set_option maxHeartbeats 2000000 in
theorem walk (a b : Int) (w : World) (ha : I64 a) (hb : I64 b) :
    Calls Try.prog 11 #[.int .i64 a, .int .i64 b] w fun e w' => e = .returned (.bool true) ∧ Below w.heap.size w w' := by
  by_cases h0 : a = 0 ∧ b = 0
  · obtain ⟨rfl, rfl⟩ := h0
    have t : gcdv 0 0 = 0 := by decide
    go_enter Try.func11, Try.ntmps11
    go_wp2_with fail
    refine (awake_any _).mono ?_
    rintro e w1 ⟨rfl, h1⟩
    go_wp2_with fail
    refine (gcd_any 0 0 ha hb _).mono ?_
    rintro e w2 ⟨rfl, h2⟩
    have q2 := h1.trans (h2.mono h1.size)
    go_wp2
    go_ret
    exact ⟨retb (by simp), q2⟩
  · by_cases hg : gcdv a b = 0
    · obtain ⟨ca, cb⟩ := gcdv_zero ha hb hg
      have t0 : (gcdv a b == 0) = true := by simp [hg]
      by_cases za : a = 0
      · have zb : b = -9223372036854775808 := by omega
        have t1 : (a == 0) = true := by simp [za]
        have t2 : (b == 0) = false := by simp [zb]
        have t3 : (b == -9223372036854775808) = true := by simp [zb]
        clear h0 hg ca cb za zb
        go_enter Try.func11, Try.ntmps11
        go_wp2_with fail
        refine (awake_any _).mono ?_
        rintro e w1 ⟨rfl, h1⟩
        go_wp2_with fail
        refine (gcd_any a b ha hb _).mono ?_
        rintro e w2 ⟨rfl, h2⟩
        have q2 := h1.trans (h2.mono h1.size)
        go_wp2
        go_ret
        exact ⟨retb (by simp), q2⟩
      · have za' : a = -9223372036854775808 := by omega
        have t1 : (a == 0) = false := by simp [za]
        have t2 : (a == -9223372036854775808) = true := by simp [za']
        by_cases zb : b = 0
        · have t3 : (b == 0) = true := by simp [zb]
          clear h0 hg ca cb za zb za'
          go_enter Try.func11, Try.ntmps11
          go_wp2_with fail
          refine (awake_any _).mono ?_
          rintro e w1 ⟨rfl, h1⟩
          go_wp2_with fail
          refine (gcd_any a b ha hb _).mono ?_
          rintro e w2 ⟨rfl, h2⟩
          have q2 := h1.trans (h2.mono h1.size)
          go_wp2
          go_ret
          exact ⟨retb (by simp), q2⟩
        · have zb' : b = -9223372036854775808 := by omega
          have t3 : (b == 0) = false := by simp [zb]
          have t4 : (b == -9223372036854775808) = true := by simp [zb']
          clear h0 hg ca cb za zb za' zb'
          go_enter Try.func11, Try.ntmps11
          go_wp2_with fail
          refine (awake_any _).mono ?_
          rintro e w1 ⟨rfl, h1⟩
          go_wp2_with fail
          refine (gcd_any a b ha hb _).mono ?_
          rintro e w2 ⟨rfl, h2⟩
          have q2 := h1.trans (h2.mono h1.size)
          go_wp2
          go_ret
          exact ⟨retb (by simp), q2⟩
    · obtain ⟨eg, pg⟩ := gcdv_ne hg
      have t0 : (gcdv a b == 0) = false := by simp [hg]
      obtain ⟨d1, d2, hA, hB, hAB⟩ := parts_main ha hb hg
      have p0 : 0 < gcdv a b := by omega
      have t1 : decide (0 < gcdv a b) = true := by simp; omega
      have t2 : (a.tmod (gcdv a b) == 0) = true := by simp [d1]
      have t3 : (b.tmod (gcdv a b) == 0) = true := by simp [d2]
      have Q1 : Hid (∀ (w : World) (n : Nat), Calls Try.prog 28 #[.int .i64 (a.tdiv (gcdv a b)), .int .i64 (b.tdiv (gcdv a b))] (w.drewN n) fun e w'' => e = .returned (.int .i64 1) ∧ ∃ m, w'' = w.drewN m) := by
        intro w n
        have h := gcd_quiet _ _ hA hB w n
        rw [hAB] at h
        exact h
      have Q2 : Hid (∀ (w : World) (n : Nat), Calls Try.prog 28 #[.int .i64 b, .int .i64 a] (w.drewN n) fun e w'' => e = .returned (.int .i64 (gcdv a b)) ∧ ∃ m, w'' = w.drewN m) := by
        intro w n
        have h := gcd_quiet b a hb ha w n
        rw [gcdv_comm] at h
        exact h
      have u1 : IntKind.i64.wrap (a.tdiv (gcdv a b)) = a.tdiv (gcdv a b) := by rw [IntKind.wrap_i64]; unfold I64 at hA; omega
      have u2 : IntKind.i64.wrap (b.tdiv (gcdv a b)) = b.tdiv (gcdv a b) := by rw [IntKind.wrap_i64]; unfold I64 at hB; omega
      have t4 : (a == 0 && b == 0) = false := by simp; omega
      have nz : ¬ gcdv a b = 0 := hg
      have EG := hid eg
      clear d1 d2 hAB eg hg pg
      cases t5 : (a == 0)
      · clear h0 t4
        go_enter Try.func11, Try.ntmps11
        go_wp2_with fail
        refine (awake_any _).mono ?_
        rintro e w1 ⟨rfl, h1⟩
        go_wp2_with fail
        refine (gcd_any a b ha hb _).mono ?_
        rintro e w2 ⟨rfl, h2⟩
        have q2 := h1.trans (h2.mono h1.size)

        go_wp2_with fail
        go_quiet ((go_at_call 28; first | (with_reducible exact Q1.out _ _) | (with_reducible exact Q2.out _ _)))
        go_wp2
        go_ret
        exact ⟨retb (by simp), below_drewN q2 _⟩
      · have t6 : (b == 0) = false := by simp at t5 ⊢; omega
        clear h0 t4
        go_enter Try.func11, Try.ntmps11
        go_wp2_with fail
        refine (awake_any _).mono ?_
        rintro e w1 ⟨rfl, h1⟩
        go_wp2_with fail
        refine (gcd_any a b ha hb _).mono ?_
        rintro e w2 ⟨rfl, h2⟩
        have q2 := h1.trans (h2.mono h1.size)

        go_wp2_with fail
        go_quiet ((go_at_call 28; first | (with_reducible exact Q1.out _ _) | (with_reducible exact Q2.out _ _)))
        go_wp2
        go_ret
        exact ⟨retb (by simp), below_drewN q2 _⟩

theorem own : ownKnob Try.prog.godebug = none := by kernel_rfl
theorem laidOut : laidOutB Try.prog = true := by kernel_rfl

set_option maxRecDepth 100000 in
theorem lifted (os : Os) (started : os.Started) (H : Type) (enc : TypeId × Value → H) :
    ReturnsInHanded {} Try.checked os 11 .any (Rows.numPartsSpec.pre6 enc Try.prog Try.f11 Rows.numPartsRow.domain false) (Rows.numPartsSpec.post enc Try.prog Try.f11 false true false false) := by
  refine returnsInHanded_of_change (C := Try.checked) own started (by kernel_rfl) Try.func11
    (ChangeSpec.witness6 (enc := enc) (C := Try.checked) false ⟨#[], #[.int .i64 0, .int .i64 0], []⟩ 8 (by kernel_rfl) (by kernel_rfl) (by kernel_rfl) (by kernel_rfl)) ?_
  intro W base args ds gs before hval0 hW hcnd _
  have hval : ∀ (j : Nat) t v, Try.f11.params[j]? = some t → args[j]? = some v → Value.okWide Try.prog W .any base t v := hval0
  have hW' := hW
  obtain ⟨p, q, hA0, hV, rfl, hfz, hnd⟩ := hW
  have hA : DataW.TrodAll enc Try.prog W 0 (fun _ => true) true Try.f11.params.toList args.toList ds p := hA0
  rw [Try.params11] at hA hval
  obtain ⟨v0, vs0, d0, ds0, p0, q0, hargs, rfl, rfl, h0, r0⟩ := trodAll_cons hA
  obtain ⟨v1, vs1, d1, ds1, p1, q1, rfl, rfl, rfl, h1, r1⟩ := trodAll_cons r0
  obtain ⟨rfl, rfl, rfl⟩ := trodAll_nil r1
  obtain rfl : args = #[v0, v1] := by cases args; simp_all
  obtain ⟨rfl, rfl⟩ := trodVars_none hV
  have lt0 : ∀ x ∈ p0, x.block < W.heap.size := by obtain ⟨m, hm⟩ := h0; exact DataW.trod_lt m _ _ _ hm
  have lt1 : ∀ x ∈ p1, x.block < W.heap.size := by obtain ⟨m, hm⟩ := h1; exact DataW.trod_lt m _ _ _ hm
  obtain ⟨a0, rfl, w0⟩ := val_i64 Try.underlying2 (hval 0 2 v0 rfl rfl) h0
  obtain ⟨a1, rfl, w1⟩ := val_i64 Try.underlying2 (hval 1 2 v1 rfl rfl) h1
  clear hA0 hval0
  refine (walk a0 a1 W w0 w1).mono fun e W' ⟨he, bel⟩ => ?_
  subst he
  exact ⟨_, rfl, _, _, _, [], _, [], hW', trodAll_mk1 (shut_bool Try.underlying4 _), (trodAll_cons_mk (Below.trod laidOut (by kernel_rfl) (of_decide_eq_true (by kernel_rfl)) h0 bel lt0) (trodAll_cons_mk (Below.trod laidOut (by kernel_rfl) (of_decide_eq_true (by kernel_rfl)) h1 bel lt1) trodAll_mk0)), rfl, bel.frame _, fun h => by cases h⟩

theorem over : Rows.numPartsRow.holds Try.pinned (OpenSpec.ofChange Rows.numPartsSpec) :=
  OpenClaim.holds_of_wide 11 Try.f11 rfl rfl rfl rfl rfl rfl rfl ⟨rfl, rfl, rfl, rfl, rfl⟩ rfl rfl rfl rfl rfl (by kernel_rfl) Try.func11 (by kernel_rfl)
    (of_decide_eq_true (by kernel_rfl)) (by unfold Func.isWrapper; first | (rw [if_pos (by decide +kernel)]; kernel_rfl) | (rw [if_neg (by decide +kernel)]; exact ⟨rfl, rfl⟩))
    (fun os started H enc _ => lifted os started H enc)

theorem proved : Rows.NumPartsSaid := over
#print axioms proved
end Go.Proofs.Ytmajoognpggcpaa.numParts
