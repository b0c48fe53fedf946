/-
  Contracts: the program's numbers with a sign; products and comparisons.
-/
import Derived.Test.YtdbkjcnanffibaaWG
import Derived.Test.YtdbkjcnanffibaaWH
namespace Go.Proofs.Ytdbkjcnanffibaa
open Go.RowKit

/-- A number by its sign and its size. -/
def sgn (s : Bool) (m : Int) : Int := if s then -m else m

theorem narrow_neg {m : Int} (h0 : hi m = 0) (h : lo m ≤ 9223372036854775808) : wrap64 (IntKind.u64.wrap (-lo m)) = nv (-m) ∧ ne (-m) = 0 := by
  have := lo_bd m; have := hilo m
  have e : m = lo m := by omega
  rw [nv_in (by omega) (by omega), ne_in (by omega) (by omega), IntKind.wrap_u64]
  unfold wrap64; omega
theorem narrow_big {m : Int} {s : Bool} (h0 : 0 ≤ m) (h : ¬ (hi m = 0 ∧ lo m ≤ if s then 9223372036854775808 else 9223372036854775807)) : nv (sgn s m) = 0 ∧ ne (sgn s m) = 2 := by
  have := lo_bd m; have := hilo m
  cases s
  · simp [sgn] at h ⊢
    exact ⟨nv_hi (by omega), ne_hi (by omega)⟩
  · simp [sgn] at h ⊢
    exact ⟨nv_lo (by omega), ne_lo (by omega)⟩
theorem narrow_pos {m : Int} (h0 : hi m = 0) (h : lo m ≤ 9223372036854775807) : nv m = lo m ∧ ne m = 0 := by
  have := lo_bd m; have := hilo m
  have e : m = lo m := by omega
  rw [nv_in (by omega) (by omega), ne_in (by omega) (by omega)]
  exact ⟨e, rfl⟩

theorem sgn_mul (a b : Int) : sgn (decide (a * b < 0)) ((a * b).natAbs : Int) = a * b := by
  generalize a * b = n
  unfold sgn
  by_cases h : n < 0
  · simp [h]; omega
  · simp [h]; omega

theorem ord_neg (m k : Int) : ord k m = ord (-m) (-k) := by unfold ord; repeat' split <;> omega

set_option maxHeartbeats 1000000 in
theorem scmp_any (s t : Bool) (m k : Int) (hm : s = true → 0 < m) (hk : t = true → 0 < k) (m0 : 0 ≤ m) (k0 : 0 ≤ k) (w : World) :
    Calls Try.prog 92 #[.agg #[.bool s, .int .u64 (hi m), .int .u64 (lo m)], .agg #[.bool t, .int .u64 (hi k), .int .u64 (lo k)]] w fun e w' => e = .returned (.int .i64 (ord (sgn s m) (sgn t k))) ∧ Below w.heap.size w w' := by
  cases s
  · cases t
    · clear hm hk
      go_enter Try.func92, Try.ntmps92
      go_wp2_with fail
      refine (wcmp_any m k _).mono ?_
      rintro e w1 ⟨rfl, h1⟩
      go_wp2
      go_ret
      exact ⟨rfl, Below.trans (by repeat (first | exact Below.refl _ _ | assumption | refine Below.alloc ?_ (by simp <;> omega) _ | refine Below.setCell ?_ (by simp <;> omega) _ | refine Below.drew ?_ | refine below_drewN ?_ _)) (h1.mono (by simp <;> omega))⟩
    · have E : Hid (ord (sgn false m) (sgn true k) = 1) := by
        have := hk rfl; simp only [sgn, Hid]; unfold ord; rw [if_neg, if_pos] <;> simp <;> omega
      clear hm hk
      go_enter Try.func92, Try.ntmps92
      go_wp2
      go_ret
      exact ⟨ret1 E.out.symm, (by repeat (first | exact Below.refl _ _ | assumption | refine Below.alloc ?_ (by simp <;> omega) _ | refine Below.setCell ?_ (by simp <;> omega) _ | refine Below.drew ?_ | refine below_drewN ?_ _))⟩
  · cases t
    · have E : Hid (ord (sgn true m) (sgn false k) = -1) := by
        have := hm rfl; simp only [sgn, Hid]; unfold ord; rw [if_pos] <;> simp <;> omega
      clear hm hk
      go_enter Try.func92, Try.ntmps92
      go_wp2
      go_ret
      exact ⟨ret1 E.out.symm, (by repeat (first | exact Below.refl _ _ | assumption | refine Below.alloc ?_ (by simp <;> omega) _ | refine Below.setCell ?_ (by simp <;> omega) _ | refine Below.drew ?_ | refine below_drewN ?_ _))⟩
    · have E : Hid (ord k m = ord (sgn true m) (sgn true k)) := ord_neg m k
      clear hm hk
      go_enter Try.func92, Try.ntmps92
      go_wp2_with fail
      refine (wcmp_any k m _).mono ?_
      rintro e w1 ⟨rfl, h1⟩
      go_wp2
      go_ret
      exact ⟨ret1 E.out, Below.trans (by repeat (first | exact Below.refl _ _ | assumption | refine Below.alloc ?_ (by simp <;> omega) _ | refine Below.setCell ?_ (by simp <;> omega) _ | refine Below.drew ?_ | refine below_drewN ?_ _)) (h1.mono (by simp <;> omega))⟩

theorem pos_of_neg {n : Int} (h : decide (n < 0) = true) : 0 < (n.natAbs : Int) := by simp at h; omega

set_option maxHeartbeats 1000000 in
theorem cmp_any (a b c d : Int) (ha : I64 a) (hb : I64 b) (hc : I64 c) (hd : I64 d) (w : World) :
    Calls Try.prog 82 #[.int .i64 a, .int .i64 b, .int .i64 c, .int .i64 d] w fun e w' => e = .returned (.tuple #[.int .i64 (cmpv a b c d), .int .i64 (cmpe b d)]) ∧ Below w.heap.size w w' := by
  by_cases h1 : b < 1
  · have t : decide (b < 1) = true := by simp; omega
    have E1 : Hid (cmpv a b c d = 0) := by unfold cmpv; rw [if_pos (.inl h1)]; rfl
    have E2 : Hid (cmpe b d = 1) := by unfold cmpe; rw [if_pos (.inl h1)]; rfl
    go_enter Try.func82, Try.ntmps82
    go_wp2
    go_ret2
    exact ⟨ret2 E1.out.symm E2.out.symm, Below.refl _ _⟩
  · have t : decide (b < 1) = false := by simp; omega
    by_cases h2 : d < 1
    · have t2 : decide (d < 1) = true := by simp; omega
      have E1 : Hid (cmpv a b c d = 0) := by unfold cmpv; rw [if_pos (.inr h2)]; rfl
      have E2 : Hid (cmpe b d = 1) := by unfold cmpe; rw [if_pos (.inr h2)]; rfl
      go_enter Try.func82, Try.ntmps82
      go_wp2
      go_ret2
      exact ⟨ret2 E1.out.symm E2.out.symm, Below.refl _ _⟩
    · have t2 : decide (d < 1) = false := by simp; omega
      have E1 : Hid (cmpv a b c d = ord (a * d) (c * b)) := by unfold cmpv; rw [if_neg (by omega)]; rfl
      have E2 : Hid (cmpe b d = 0) := by unfold cmpe; rw [if_neg (by omega)]; rfl
      have h := fun w' => scmp_any (decide (a * d < 0)) (decide (c * b < 0)) ((a * d).natAbs : Int) ((c * b).natAbs : Int) pos_of_neg pos_of_neg (by omega) (by omega) w'
      rw [sgn_mul, sgn_mul] at h
      have H := hid h
      clear h
      go_enter Try.func82, Try.ntmps82
      go_wp2_with fail
      refine (multiply_any a d ha hd _).mono ?_
      rintro e w1 ⟨rfl, q1⟩
      go_wp2_with fail
      refine (multiply_any c b hc hb _).mono ?_
      rintro e w2 ⟨rfl, q2⟩
      go_wp2_with fail
      refine (H.out _).mono ?_
      rintro e w3 ⟨rfl, q3⟩
      have r2 := q1.trans (q2.mono q1.size)
      have r3 := r2.trans (q3.mono r2.size)
      go_wp2
      go_ret2
      exact ⟨ret2 E1.out.symm E2.out.symm, r3⟩

end Go.Proofs.Ytdbkjcnanffibaa
