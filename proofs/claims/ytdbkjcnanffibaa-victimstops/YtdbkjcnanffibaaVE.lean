/-
  Contracts of vec: fractions.
-/
import Derived.Test.YtdbkjcnanffibaaVD
import Derived.Test.YtdbkjcnanffibaaWI
namespace Go.Proofs.Ytdbkjcnanffibaa
open Go.RowKit Go.Shelf
set_option linter.unusedVariables false

set_option maxHeartbeats 1000000 in
theorem isnanI_any (x : Int) (w : World) :
    Calls Try.prog 90 #[.int .i64 x] w fun e w' => e = .returned (.bool false) ∧ w = w' := by
  go_enter Try.func90, Try.ntmps90
  have t : (x != x) = false := by simp
  go_wp2
  go_ret
  simp

set_option maxHeartbeats 1000000 in
theorem icmp_any (x y : Int) (w : World) :
    Calls Try.prog 81 #[.int .i64 x, .int .i64 y] w fun e w' => e = .returned (.int .i64 (ord x y)) ∧ w = w' := by
  by_cases h1 : x < y
  · have t1 : decide (x < y) = true := by simp; omega
    have E := hid (show ord x y = -1 by unfold ord; rw [if_pos h1])
    go_enter Try.func81, Try.ntmps81
    go_wp2_with (go_at_call 90; refine (isnanI_any _ _).mono ?_; rintro e w1 ⟨rfl, rfl⟩)
    go_ret
    exact ⟨ret1 E.out.symm, rfl⟩
  · by_cases h2 : y < x
    · have t1 : decide (x < y) = false := by simp; omega
      have t2 : decide (y < x) = true := by simp; omega
      have E := hid (show ord x y = 1 by unfold ord; rw [if_neg h1, if_pos h2])
      go_enter Try.func81, Try.ntmps81
      go_wp2_with (go_at_call 90; refine (isnanI_any _ _).mono ?_; rintro e w1 ⟨rfl, rfl⟩)
      go_ret
      exact ⟨ret1 E.out.symm, rfl⟩
    · have t1 : decide (x < y) = false := by simp; omega
      have t2 : decide (y < x) = false := by simp; omega
      have E := hid (show ord x y = 0 by unfold ord; rw [if_neg h1, if_neg h2])
      go_enter Try.func81, Try.ntmps81
      go_wp2_with (go_at_call 90; refine (isnanI_any _ _).mono ?_; rintro e w1 ⟨rfl, rfl⟩)
      go_ret
      exact ⟨ret1 E.out.symm, rfl⟩

/-- One resource's fraction. -/
def shr (p q : Int) : Int × Int := if 0 < q then (p, q) else if 0 < p then (1, 0) else (0, 1)
/-- How two fractions compare; 1/0 is above all others. -/
def fc (f g : Int × Int) : Int := if f.2 = 0 ∨ g.2 = 0 then ord g.2 f.2 else ord (f.1 * g.2) (g.1 * f.2)
/-- A fraction as the program keeps it. -/
def Fr (f : Int × Int) : Prop := I64 f.1 ∧ 0 ≤ f.2 ∧ f.2 ≤ 9223372036854775807

set_option maxHeartbeats 1000000 in
theorem share_any (p q : Int) (w : World) :
    Calls Try.prog 80 #[.int .i64 p, .int .i64 q] w fun e w' => e = .returned (.agg #[.int .i64 (shr p q).1, .int .i64 (shr p q).2]) ∧ Below w.heap.size w w' := by
  by_cases h1 : 0 < q
  · have t1 : decide (0 < q) = true := by simp; omega
    have E : Hid (shr p q = (p, q)) := by show _ = _; unfold shr; rw [if_pos h1]
    go_enter Try.func80, Try.ntmps80
    go_wp2
    rw [E.out]
    exact bodyPost_ret (v := .agg #[.int .i64 p, .int .i64 q]) (by simp [results, Try.results80, go_sem]) rfl ⟨rfl, (by repeat (first | exact Below.refl _ _ | assumption | refine Below.alloc ?_ (by simp <;> omega) _ | refine Below.setCell ?_ (by simp <;> omega) _ | refine Below.drew ?_ | refine below_drewN ?_ _))⟩
  · have t1 : decide (0 < q) = false := by simp; omega
    by_cases h2 : 0 < p
    · have t2 : decide (0 < p) = true := by simp; omega
      have E : Hid (shr p q = (1, 0)) := by show _ = _; unfold shr; rw [if_neg h1, if_pos h2]
      go_enter Try.func80, Try.ntmps80
      go_wp2
      rw [E.out]
      exact bodyPost_ret (v := .agg #[.int .i64 1, .int .i64 0]) (by simp [results, Try.results80, go_sem]) rfl ⟨rfl, (by repeat (first | exact Below.refl _ _ | assumption | refine Below.alloc ?_ (by simp <;> omega) _ | refine Below.setCell ?_ (by simp <;> omega) _ | refine Below.drew ?_ | refine below_drewN ?_ _))⟩
    · have t2 : decide (0 < p) = false := by simp; omega
      have E : Hid (shr p q = (0, 1)) := by show _ = _; unfold shr; rw [if_neg h1, if_neg h2]
      go_enter Try.func80, Try.ntmps80
      go_wp2
      rw [E.out]
      exact bodyPost_ret (v := .agg #[.int .i64 0, .int .i64 1]) (by simp [results, Try.results80, go_sem]) rfl ⟨rfl, (by repeat (first | exact Below.refl _ _ | assumption | refine Below.alloc ?_ (by simp <;> omega) _ | refine Below.setCell ?_ (by simp <;> omega) _ | refine Below.drew ?_ | refine below_drewN ?_ _))⟩

set_option maxHeartbeats 1000000 in
theorem fcmp_core (a b c d : Int) (hf : Fr (a, b)) (hg : Fr (c, d)) (w : World) :
    Calls Try.prog 67 #[.agg #[.int .i64 a, .int .i64 b], .agg #[.int .i64 c, .int .i64 d]] w fun e w' => e = .returned (.int .i64 (fc (a, b) (c, d))) ∧ Below w.heap.size w w' := by
  obtain ⟨a1, b1, b2⟩ := hf
  obtain ⟨c1, d1, d2⟩ := hg
  simp only at a1 b1 b2 c1 d1 d2
  by_cases h1 : b = 0
  · have t1 : (b == 0) = true := by simp [h1]
    have E : Hid (ord d b = fc (a, b) (c, d)) := by show _ = _; unfold fc; rw [if_pos (.inl h1)]
    clear h1
    go_enter Try.func67, Try.ntmps67
    go_wp2_with (go_at_call 81; refine (icmp_any _ _ _).mono ?_; rintro e w1 ⟨rfl, rfl⟩)
    go_ret
    exact ⟨ret1 E.out, (by repeat (first | exact Below.refl _ _ | assumption | refine Below.alloc ?_ (by simp <;> omega) _ | refine Below.setCell ?_ (by simp <;> omega) _ | refine Below.drew ?_ | refine below_drewN ?_ _))⟩
  · have t1 : (b == 0) = false := by simp [h1]
    by_cases h2 : d = 0
    · have t2 : (d == 0) = true := by simp [h2]
      have E : Hid (ord d b = fc (a, b) (c, d)) := by show _ = _; unfold fc; rw [if_pos (.inr h2)]
      clear h1 h2
      go_enter Try.func67, Try.ntmps67
      go_wp2_with (go_at_call 81; refine (icmp_any _ _ _).mono ?_; rintro e w1 ⟨rfl, rfl⟩)
      go_ret
      exact ⟨ret1 E.out, (by repeat (first | exact Below.refl _ _ | assumption | refine Below.alloc ?_ (by simp <;> omega) _ | refine Below.setCell ?_ (by simp <;> omega) _ | refine Below.drew ?_ | refine below_drewN ?_ _))⟩
    · have t2 : (d == 0) = false := by simp [h2]
      have E : Hid (fc (a, b) (c, d) = ord (a * d) (c * b)) := by show _ = _; unfold fc; rw [if_neg (by simp [h1, h2])]
      have hc := fun w => cmp_any a b c d a1 ⟨by omega, b2⟩ c1 ⟨by omega, d2⟩ w
      rw [show cmpv a b c d = ord (a * d) (c * b) by unfold cmpv; rw [if_neg (by omega)]] at hc
      have HC := hid hc
      clear hc h1 h2
      go_enter Try.func67, Try.ntmps67
      go_wp2_with fail
      refine (HC.out _).mono ?_
      rintro e w1 ⟨rfl, q1⟩
      go_wp2
      go_ret
      exact ⟨ret1 E.out.symm, Below.trans (by repeat (first | exact Below.refl _ _ | assumption | refine Below.alloc ?_ (by simp <;> omega) _ | refine Below.setCell ?_ (by simp <;> omega) _ | refine Below.drew ?_ | refine below_drewN ?_ _)) (q1.mono (by simp <;> omega))⟩

theorem fcmp_any (f g : Int × Int) (hf : Fr f) (hg : Fr g) (w : World) :
    Calls Try.prog 67 #[.agg #[.int .i64 f.1, .int .i64 f.2], .agg #[.int .i64 g.1, .int .i64 g.2]] w fun e w' => e = .returned (.int .i64 (fc f g)) ∧ Below w.heap.size w w' :=
  fcmp_core f.1 f.2 g.1 g.2 hf hg w

set_option maxHeartbeats 1000000 in
theorem divide_any (a b x : Int) (h1 : -9223372036854775808 ≤ b * x) (h2 : b * x ≤ 9223372036854775807) (w : World) :
    Calls Try.prog 66 #[.agg #[.int .i64 a, .int .i64 b], .int .i64 x] w fun e w' => e = .returned (.agg #[.int .i64 a, .int .i64 (b * x)]) ∧ Below w.heap.size w w' := by
  have pw := w64_in h1 h2
  go_enter Try.func66, Try.ntmps66
  go_wp2
  exact bodyPost_ret (v := .agg #[.int .i64 a, .int .i64 (b * x)]) (by simp [results, Try.results66, go_sem]) rfl ⟨rfl, (by repeat (first | exact Below.refl _ _ | assumption | refine Below.alloc ?_ (by simp <;> omega) _ | refine Below.setCell ?_ (by simp <;> omega) _ | refine Below.drew ?_ | refine below_drewN ?_ _))⟩

theorem shr_fr {p q : Int} (hp : okp p) (hq : okp q) : Fr (shr p q) ∧ 0 ≤ (shr p q).1 := by
  unfold okp at hp hq
  unfold shr Fr I64
  split
  · simp only; omega
  · split <;> simp <;> omega

end Go.Proofs.Ytdbkjcnanffibaa
