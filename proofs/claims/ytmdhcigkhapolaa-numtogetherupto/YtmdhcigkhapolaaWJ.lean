/-
  Contracts: sums and differences of 128 bits of the program; a product divided, given what a division answers.
-/
import Derived.Test.YtmdhcigkhapolaaWI
import Derived.Laws.Externs
import Derived.Shelf.Spec.BitsCarry
namespace Go.Proofs.Ytmdhcigkhapolaa
open Go.RowKit

theorem add64_run (x y : Int) (hx : 0 ≤ x) (hy : 0 ≤ y) (w : World) :
    (callFunc 55 #[.int .u64 x, .int .u64 y, .int .u64 0]).run Try.prog w = .ok (.value (.tuple #[.int .u64 ((x + y) % 18446744073709551616), .int .u64 ((x + y) / 18446744073709551616)])) w := by
  rw [run_callFunc_extern Try.func55 (by kernel_rfl) (by kernel_rfl) (by kernel_rfl) (e := add64Entry) (by kernel_rfl), run_add64 x y 0 hx hy (by omega) (by omega) w]
  simp [Result.andThen]

theorem sub64_run (x y : Int) (hx : 0 ≤ x) (hx' : x ≤ 18446744073709551615) (hy : 0 ≤ y) (hy' : y ≤ 18446744073709551615) (w : World) :
    (callFunc 70 #[.int .u64 x, .int .u64 y, .int .u64 0]).run Try.prog w = .ok (.value (.tuple #[.int .u64 ((x - y) % 18446744073709551616), .int .u64 (if x < y then 1 else 0)])) w := by
  obtain ⟨a, rfl⟩ := Int.eq_ofNat_of_zero_le hx
  obtain ⟨b, rfl⟩ := Int.eq_ofNat_of_zero_le hy
  have h := run_sub64 (P := Try.prog) a b 0 (by omega) w
  rw [run_callFunc_extern Try.func70 (by kernel_rfl) (by kernel_rfl) (by kernel_rfl) (e := sub64Entry) (by kernel_rfl)]
  have e1 : (((a + 18446744073709551616 - b - 0) % 18446744073709551616 : Nat) : Int) = ((a : Int) - b) % 18446744073709551616 := by omega
  have e2 : ((if a < b + 0 then 1 else 0 : Nat) : Int) = if (a : Int) < b then 1 else 0 := by split <;> split <;> omega
  rw [e1, e2] at h
  have h' : Sem.run Try.prog (sub64Entry #[Value.int IntKind.u64 ↑a, Value.int IntKind.u64 ↑b, Value.int IntKind.u64 0]) w = _ := h
  rw [h']
  rfl

theorem plus_hl0 {n x : Int} (hx : 0 ≤ x) (hx' : x ≤ 18446744073709551615) (hn : 0 ≤ hi n) (hb : hi (n + x) ≤ 18446744073709551615) :
    IntKind.u64.wrap (hi n + (lo n + x) / 18446744073709551616) = hi (n + x) ∧ (lo n + x) % 18446744073709551616 = lo (n + x) := by
  rw [IntKind.wrap_u64]; unfold hi lo at *; omega

set_option maxHeartbeats 1000000 in
theorem wplus_any (n x : Int) (hx : 0 ≤ x) (hx' : x ≤ 18446744073709551615) (hn : 0 ≤ hi n) (hb : hi (n + x) ≤ 18446744073709551615) (w : World) :
    Calls Try.prog 31 #[.agg #[.int .u64 (hi n), .int .u64 (lo n)], .int .u64 x] w fun e w' =>
      e = .returned (.agg #[.int .u64 (hi (n + x)), .int .u64 (lo (n + x))]) ∧ Below w.heap.size w w' := by
  obtain ⟨l0, l1⟩ := lo_bd n
  have E := hid (plus_hl0 hx hx' hn hb)
  have hr := fun w => add64_run (lo n) x l0 hx w
  go_enter Try.func31, Try.ntmps31
  go_wp2
  rw [E.out.1, E.out.2]
  exact bodyPost_ret (v := .agg #[.int .u64 (hi (n + x)), .int .u64 (lo (n + x))]) (by simp [results, Try.results31, go_sem]) rfl ⟨rfl, (by repeat (first | exact Below.refl _ _ | assumption | refine Below.alloc ?_ (by simp <;> omega) _ | refine Below.setCell ?_ (by simp <;> omega) _ | refine Below.drew ?_ | refine below_drewN ?_ _))⟩

theorem wplus_at (n : Int) {x h l : Int} (e1 : h = hi n) (e2 : l = lo n) (hx : 0 ≤ x) (hx' : x ≤ 18446744073709551615) (hn : 0 ≤ hi n) (hb : hi (n + x) ≤ 18446744073709551615) (w : World) :
    Calls Try.prog 31 #[.agg #[.int .u64 h, .int .u64 l], .int .u64 x] w fun e w' =>
      e = .returned (.agg #[.int .u64 (hi (n + x)), .int .u64 (lo (n + x))]) ∧ Below w.heap.size w w' := by
  subst e1 e2; exact wplus_any n x hx hx' hn hb w

theorem minus_hl0 {n k : Int} (hk : 0 ≤ k) (h : k ≤ n) (hn : hi n ≤ 18446744073709551615) :
    IntKind.u64.wrap (IntKind.u64.wrap (hi n - hi k) - if lo n < lo k then 1 else 0) = hi (n - k) ∧ (lo n - lo k) % 18446744073709551616 = lo (n - k) := by
  rw [IntKind.wrap_u64, IntKind.wrap_u64]; unfold hi lo at *; split <;> omega

set_option maxHeartbeats 1000000 in
theorem wminus_any (n k : Int) (hk : 0 ≤ k) (h : k ≤ n) (hn : hi n ≤ 18446744073709551615) (w : World) :
    Calls Try.prog 57 #[.agg #[.int .u64 (hi n), .int .u64 (lo n)], .agg #[.int .u64 (hi k), .int .u64 (lo k)]] w fun e w' =>
      e = .returned (.agg #[.int .u64 (hi (n - k)), .int .u64 (lo (n - k))]) ∧ Below w.heap.size w w' := by
  obtain ⟨l0, l1⟩ := lo_bd n
  obtain ⟨k0, k1⟩ := lo_bd k
  have E := minus_hl0 hk h hn
  by_cases hl : lo n < lo k
  · have hr := fun w => sub64_run (lo n) (lo k) l0 l1 k0 k1 w
    rw [if_pos hl] at E hr
    have E := hid E
    rename_i E0
    clear E0
    go_enter Try.func57, Try.ntmps57
    go_wp2
    rw [E.out.1, E.out.2]
    exact bodyPost_ret (v := .agg #[.int .u64 (hi (n - k)), .int .u64 (lo (n - k))]) (by simp [results, Try.results57, go_sem]) rfl ⟨rfl, (by repeat (first | exact Below.refl _ _ | assumption | refine Below.alloc ?_ (by simp <;> omega) _ | refine Below.setCell ?_ (by simp <;> omega) _ | refine Below.drew ?_ | refine below_drewN ?_ _))⟩
  · have hr := fun w => sub64_run (lo n) (lo k) l0 l1 k0 k1 w
    rw [if_neg hl] at E hr
    rw [Int.sub_zero] at E
    have E := hid E
    rename_i E0
    clear E0
    go_enter Try.func57, Try.ntmps57
    go_wp2
    rw [E.out.1, E.out.2]
    exact bodyPost_ret (v := .agg #[.int .u64 (hi (n - k)), .int .u64 (lo (n - k))]) (by simp [results, Try.results57, go_sem]) rfl ⟨rfl, (by repeat (first | exact Below.refl _ _ | assumption | refine Below.alloc ?_ (by simp <;> omega) _ | refine Below.setCell ?_ (by simp <;> omega) _ | refine Below.drew ?_ | refine below_drewN ?_ _))⟩

set_option maxHeartbeats 1000000 in
theorem difference_any (n k : Int) (hn0 : 0 ≤ n) (hk0 : 0 ≤ k) (hn : hi n ≤ 18446744073709551615) (hk : hi k ≤ 18446744073709551615) (w : World) :
    Calls Try.prog 33 #[.agg #[.int .u64 (hi n), .int .u64 (lo n)], .agg #[.int .u64 (hi k), .int .u64 (lo k)]] w fun e w' =>
      e = .returned (.agg #[.bool (decide (n < k)), .int .u64 (hi ((n - k).natAbs : Int)), .int .u64 (lo ((n - k).natAbs : Int))]) ∧ Below w.heap.size w w' := by
  by_cases hlt : n < k
  · have t : decide (ord n k < 0) = true := by unfold ord; rw [if_pos hlt]; decide
    have E1 : Hid (decide (n < k) = true) := decide_eq_true hlt
    have E2 : Hid (((n - k).natAbs : Int) = k - n) := show ((n - k).natAbs : Int) = k - n by omega
    go_enter Try.func33, Try.ntmps33
    go_wp2_with fail
    refine (wcmp_any n k _).mono ?_
    rintro e w1 ⟨rfl, h1⟩
    have a0 := keepc h1 (a := ⟨w.heap.size, 0, none⟩) (v := .int .u64 (hi n)) (by simp [go_sem])
    have a1 := keepc h1 (a := ⟨w.heap.size, 1, none⟩) (v := .int .u64 (lo n)) (by simp [go_sem])
    have b0 := keepc h1 (a := ⟨w.heap.size + 1, 0, none⟩) (v := .int .u64 (hi k)) (by simp [go_sem])
    have b1 := keepc h1 (a := ⟨w.heap.size + 1, 1, none⟩) (v := .int .u64 (lo k)) (by simp [go_sem])
    have f0 := keepf h1 (a := ⟨w.heap.size + 1 + 1, 0, none⟩) (v := .bool false) (by simp [go_sem]) (by simp [go_sem])
    have c0 := keepc h1 (a := ⟨w.heap.size + 1 + 1, 0, none⟩) (v := .bool false) (by simp [go_sem])
    have f1 := keepf h1 (a := ⟨w.heap.size + 1 + 1, 1, none⟩) (v := .int .u64 0) (by simp [go_sem]) (by simp [go_sem])
    have c1 := keepc h1 (a := ⟨w.heap.size + 1 + 1, 1, none⟩) (v := .int .u64 0) (by simp [go_sem])
    have f2 := keepf h1 (a := ⟨w.heap.size + 1 + 1, 1 + 1, none⟩) (v := .int .u64 0) (by simp [go_sem]) (by simp [go_sem])
    have c2 := keepc h1 (a := ⟨w.heap.size + 1 + 1, 1 + 1, none⟩) (v := .int .u64 0) (by simp [go_sem])
    have hB1 : Below w.heap.size w w1 := Below.trans (by repeat (first | exact Below.refl _ _ | assumption | refine Below.alloc ?_ (by simp <;> omega) _ | refine Below.setCell ?_ (by simp <;> omega) _ | refine Below.drew ?_ | refine below_drewN ?_ _)) (h1.mono (by simp <;> omega))
    go_wp2_with fail
    refine (wminus_any k n hn0 (by omega) hk _).mono ?_
    rintro e w2 ⟨rfl, h2⟩
    have g0 := keepf h2 c0 f0; have g1 := keepf h2 c1 f1; have g2 := keepf h2 c2 f2
    have d0 := keepc h2 c0; have d1 := keepc h2 c1; have d2 := keepc h2 c2
    have hB2 : Below w.heap.size w w2 := hB1.trans (h2.mono hB1.size)
    clear a0 a1 b0 b1 c0 c1 c2 f0 f1 f2
    go_wp2
    refine bodyPost_ret (v := .agg #[.bool (decide (n < k)), .int .u64 (hi ((n - k).natAbs : Int)), .int .u64 (lo ((n - k).natAbs : Int))]) ?_ rfl ⟨rfl, ((hB2.setCell (by simp <;> omega) _).setCell (by simp <;> omega) _).setCell (by simp <;> omega) _⟩
    rw [E1.out, E2.out]
    simp [results, Try.results33, go_sem, d0, d1, d2]
  · have t : decide (ord n k < 0) = false := by unfold ord; rw [if_neg hlt]; split <;> decide
    have E1 : Hid (decide (n < k) = false) := decide_eq_false hlt
    have E2 : Hid (((n - k).natAbs : Int) = n - k) := show ((n - k).natAbs : Int) = n - k by omega
    go_enter Try.func33, Try.ntmps33
    go_wp2_with fail
    refine (wcmp_any n k _).mono ?_
    rintro e w1 ⟨rfl, h1⟩
    have a0 := keepc h1 (a := ⟨w.heap.size, 0, none⟩) (v := .int .u64 (hi n)) (by simp [go_sem])
    have a1 := keepc h1 (a := ⟨w.heap.size, 1, none⟩) (v := .int .u64 (lo n)) (by simp [go_sem])
    have b0 := keepc h1 (a := ⟨w.heap.size + 1, 0, none⟩) (v := .int .u64 (hi k)) (by simp [go_sem])
    have b1 := keepc h1 (a := ⟨w.heap.size + 1, 1, none⟩) (v := .int .u64 (lo k)) (by simp [go_sem])
    have f0 := keepf h1 (a := ⟨w.heap.size + 1 + 1, 0, none⟩) (v := .bool false) (by simp [go_sem]) (by simp [go_sem])
    have c0 := keepc h1 (a := ⟨w.heap.size + 1 + 1, 0, none⟩) (v := .bool false) (by simp [go_sem])
    have f1 := keepf h1 (a := ⟨w.heap.size + 1 + 1, 1, none⟩) (v := .int .u64 0) (by simp [go_sem]) (by simp [go_sem])
    have c1 := keepc h1 (a := ⟨w.heap.size + 1 + 1, 1, none⟩) (v := .int .u64 0) (by simp [go_sem])
    have f2 := keepf h1 (a := ⟨w.heap.size + 1 + 1, 1 + 1, none⟩) (v := .int .u64 0) (by simp [go_sem]) (by simp [go_sem])
    have c2 := keepc h1 (a := ⟨w.heap.size + 1 + 1, 1 + 1, none⟩) (v := .int .u64 0) (by simp [go_sem])
    have hB1 : Below w.heap.size w w1 := Below.trans (by repeat (first | exact Below.refl _ _ | assumption | refine Below.alloc ?_ (by simp <;> omega) _ | refine Below.setCell ?_ (by simp <;> omega) _ | refine Below.drew ?_ | refine below_drewN ?_ _)) (h1.mono (by simp <;> omega))
    go_wp2_with fail
    refine (wminus_any n k hk0 (by omega) hn _).mono ?_
    rintro e w2 ⟨rfl, h2⟩
    have g0 := keepf h2 c0 f0; have g1 := keepf h2 c1 f1; have g2 := keepf h2 c2 f2
    have d0 := keepc h2 c0; have d1 := keepc h2 c1; have d2 := keepc h2 c2
    have hB2 : Below w.heap.size w w2 := hB1.trans (h2.mono hB1.size)
    clear a0 a1 b0 b1 c0 c1 c2 f0 f1 f2
    go_wp2
    refine bodyPost_ret (v := .agg #[.bool (decide (n < k)), .int .u64 (hi ((n - k).natAbs : Int)), .int .u64 (lo ((n - k).natAbs : Int))]) ?_ rfl ⟨rfl, ((hB2.setCell (by simp <;> omega) _).setCell (by simp <;> omega) _).setCell (by simp <;> omega) _⟩
    rw [E1.out, E2.out]
    simp [results, Try.results33, go_sem, d0, d1, d2]

end Go.Proofs.Ytmdhcigkhapolaa
