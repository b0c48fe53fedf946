/-
  Contracts: sums of lists, by the document; empty lists.
-/
import Derived.Test.YtmdhcigkhapolaaWL
namespace Go.Proofs.Ytmdhcigkhapolaa
open Go.RowKit

theorem sum_bd (l : List Int) (h : ∀ x ∈ l, I64 x) : -(l.length * 9223372036854775808) ≤ l.sum ∧ l.sum ≤ l.length * 9223372036854775808 := by
  have := pn_bd l h
  rw [sum_pn]; omega
theorem sum_snoc (l : List Int) (x : Int) : (l ++ [x]).sum = l.sum + x := by simp

set_option maxHeartbeats 1000000 in
theorem rsum_row (b off len cap : Nat) (zs : List Int) (w : World) (hl : len ≤ zs.length) (hm : len ≤ 140737488355328) (hz : ∀ x ∈ zs, I64 x)
    (hc : ∀ j, j < zs.length → w.cell? ⟨b, off + j, none⟩ = some (.int .i64 (zs[j]?.getD 0))) :
    Calls Try.prog 14 #[.slice (some ⟨b, off, none⟩) len cap] w fun e w' => e = .returned (.tuple #[.int .i64 (nv (zs.take len).sum), .int .i64 (ne (zs.take len).sum)]) ∧ Below w.heap.size w w' := by
  have HC := hid hc
  clear hc
  go_enter Try.func14, Try.ntmps14
  go_wp2_with fail
  go_loopw [10] (fun i wr => ∃ k : Nat, k ≤ len ∧ i = .int .i64 k ∧ Below w.heap.size w wr
      ∧ wr.cell? ⟨w.heap.size, 0, none⟩ = some (.int .i64 (hi (zs.take k).sum)) ∧ wr.cell? ⟨w.heap.size, 1, none⟩ = some (.int .u64 (lo (zs.take k).sum))
      ∧ wr.frozen? ⟨w.heap.size, 0, none⟩ = false ∧ wr.frozen? ⟨w.heap.size, 1, none⟩ = false) (fun i _ => len - (intOf i).toNat)
  case atStart =>
    refine ⟨0, by omega, rfl, (by repeat (first | exact Below.refl _ _ | assumption | refine Below.alloc ?_ (by simp <;> omega) _ | refine Below.setCell ?_ (by simp <;> omega) _ | refine Below.drew ?_ | refine below_drewN ?_ _)), ?_⟩
    simp [hl_zero.1, hl_zero.2, go_sem]
  case round =>
    obtain ⟨k, hk, rfl, hB, c0, c1, f0, f1⟩ := hrel
    have hlt := cell_lt c0
    simp only at hlt
    by_cases hlt' : k < len
    · have hx : I64 (zs[k]?.getD 0) := by rw [List.getElem?_eq_getElem (by omega)]; exact hz _ (List.getElem_mem _)
      have hcx : wr.cell? ⟨b, off + k, none⟩ = some (.int .i64 (zs[k]?.getD 0)) := (hB.cell (p := ⟨b, off + k, none⟩) (cell_lt (HC.out k (by omega)))).trans (HC.out k (by omega))
      have bd := sum_bd (zs.take (k + 1)) (fun x hx => hz x (List.mem_of_mem_take hx))
      have hlen : (zs.take (k + 1)).length ≤ k + 1 := List.length_take_le _ _
      have hr : I128 (zs.take (k + 1)).sum := by unfold I128 hi; omega
      rw [take_snoc (by omega), sum_snoc] at hr
      have SP : Hid ((zs.take (k + 1)).sum = (zs.take k).sum + zs[k]?.getD 0) := by rw [take_snoc (by omega), sum_snoc]; rfl
      clear bd hlen
      generalize zs[k]?.getD 0 = x at *
      generalize (zs.take k).sum = S at *
      go_wp2_with fail
      go_region_with (first
        | (go_at_call 36; refine (of_any x hx _).mono ?_; rintro e w1 ⟨rfl, h1⟩; have hB1 := hB.drew.trans (h1.mono hB.size); have d0 := keepc h1 c0; have d1 := keepc h1 c1; have g0 := keepf h1 c0 f0; have g1 := keepf h1 c1 f1; clear c0 c1 f0 f1)
        | (go_at_call 35; refine (plus_any S x hr _).mono ?_; rintro e w2 ⟨rfl, h2⟩; have hB2 := hB1.trans (h2.mono hB1.size); have e0 := keepc h2 d0; have e1 := keepc h2 d1; have m0 := keepf h2 d0 g0; have m1 := keepf h2 d1 g1; clear d0 d1 g0 g1))
      all_goals
        have hr2 := hB2.size
        go_wp2
        go_roundw
        case rel => exact ⟨k + 1, by omega, by go_num, (hB2.setCell (by simp <;> omega) _).setCell (by simp <;> omega) _, by rw [SP.out]; simp [go_sem, e0], by rw [SP.out]; simp [go_sem, e1], by simp [go_sem, m0], by simp [go_sem, m1]⟩
        case measure => simp [intOf]; omega
    · obtain rfl : k = len := by omega
      go_wp2_with fail
      refine (rnarrow_any (zs.take k).sum _).mono ?_
      rintro e w2 ⟨rfl, h2⟩
      have hB2 := hB.trans (h2.mono hB.size)
      go_wp2
      go_ret2
      exact ⟨rfl, hB2⟩

theorem nvne0 : nv 0 = 0 ∧ ne 0 = 0 := by decide

theorem diff00 (w : World) : Calls Try.prog 33 #[.agg #[.int .u64 0, .int .u64 0], .agg #[.int .u64 0, .int .u64 0]] w fun e w' =>
    e = .returned (.agg #[.bool false, .int .u64 0, .int .u64 0]) ∧ Below w.heap.size w w' := by
  have n3 : hi 0 ≤ 18446744073709551615 := by unfold hi; omega
  have h := difference_any 0 0 (by omega) (by omega) n3 n3 w
  rw [show (((0 : Int) - 0).natAbs : Int) = 0 by omega, hl_zero.1, hl_zero.2] at h
  exact h
theorem narrow00 (w : World) : Calls Try.prog 34 #[.agg #[.bool false, .int .u64 0, .int .u64 0]] w fun e w' =>
    e = .returned (.tuple #[.int .i64 0, .int .i64 0]) ∧ Below w.heap.size w w' := by
  have h := narrow_any false 0 (by omega) w
  rw [show sgn false 0 = 0 by rfl, nvne0.1, nvne0.2, hl_zero.1, hl_zero.2] at h
  exact h
theorem rnarrow00 (w : World) : Calls Try.prog 37 #[.agg #[.int .i64 0, .int .u64 0]] w fun e w' =>
    e = .returned (.tuple #[.int .i64 0, .int .i64 0]) ∧ Below w.heap.size w w' := by
  have h := rnarrow_any 0 w
  rw [nvne0.1, nvne0.2, hl_zero.1, hl_zero.2] at h
  exact h

set_option maxHeartbeats 1000000 in
theorem sum_zero (a : Option Addr) (cap : Nat) (w : World) :
    Calls Try.prog 13 #[.slice a 0 cap] w fun e w' => e = .returned (.tuple #[.int .i64 0, .int .i64 0]) ∧ Below w.heap.size w w' := by
  go_enter Try.func13, Try.ntmps13
  go_wp2_with fail
  go_loopw [10] (fun i wr => i = .int .i64 0 ∧ wr = w.alloc (.cells #[.int .u64 0, .int .u64 0, .int .u64 0, .int .u64 0] 46)) (fun i _ => 0)
  case atStart => exact ⟨rfl, rfl⟩
  case round =>
    obtain ⟨rfl, rfl⟩ := hrel
    go_wp2_with fail
    refine (diff00 _).mono ?_
    rintro e w1 ⟨rfl, h1⟩
    go_wp2_with fail
    refine (narrow00 _).mono ?_
    rintro e w2 ⟨rfl, h2⟩
    have hB1 : Below w.heap.size w w1 := Below.trans (by repeat (first | exact Below.refl _ _ | assumption | refine Below.alloc ?_ (by simp <;> omega) _ | refine Below.setCell ?_ (by simp <;> omega) _ | refine Below.drew ?_ | refine below_drewN ?_ _)) (h1.mono (by simp <;> omega))
    have hB2 := hB1.trans (h2.mono hB1.size)
    go_wp2
    go_ret2
    exact ⟨rfl, hB2⟩

set_option maxHeartbeats 1000000 in
theorem rsum_zero (a : Option Addr) (cap : Nat) (w : World) :
    Calls Try.prog 14 #[.slice a 0 cap] w fun e w' => e = .returned (.tuple #[.int .i64 0, .int .i64 0]) ∧ Below w.heap.size w w' := by
  go_enter Try.func14, Try.ntmps14
  go_wp2_with fail
  go_loopw [10] (fun i wr => i = .int .i64 0 ∧ wr = w.alloc (.cells #[.int .i64 0, .int .u64 0] 54)) (fun i _ => 0)
  case atStart => exact ⟨rfl, rfl⟩
  case round =>
    obtain ⟨rfl, rfl⟩ := hrel
    go_wp2_with fail
    refine (rnarrow00 _).mono ?_
    rintro e w2 ⟨rfl, h2⟩
    have hB2 : Below w.heap.size w w2 := Below.trans (by repeat (first | exact Below.refl _ _ | assumption | refine Below.alloc ?_ (by simp <;> omega) _ | refine Below.setCell ?_ (by simp <;> omega) _ | refine Below.drew ?_ | refine below_drewN ?_ _)) (h2.mono (by simp <;> omega))
    go_wp2
    go_ret2
    exact ⟨rfl, hB2⟩

/-- What a slice of int64 reads as: its numbers; where it has any it leads to a row of them. -/
def Holds (w : World) (a : Option Addr) (len : Nat) (l : List Int) : Prop :=
  l.length = len ∧ len ≤ 140737488355328 ∧ (∀ x ∈ l, I64 x) ∧ (0 < len → ∃ b off, a = some ⟨b, off, none⟩ ∧ ∀ j, j < len → w.cell? ⟨b, off + j, none⟩ = some (.int .i64 (l[j]?.getD 0)))

theorem Holds.below {w w' : World} {a : Option Addr} {len : Nat} {l : List Int} (h : Holds w a len l) (hb : Below w.heap.size w w') : Holds w' a len l := by
  obtain ⟨h1, h2, h3, h4⟩ := h
  refine ⟨h1, h2, h3, fun hp => ?_⟩
  obtain ⟨b, off, e, hc⟩ := h4 hp
  exact ⟨b, off, e, fun j hj => keepc hb (hc j hj)⟩

theorem sum_any (a : Option Addr) (len cap : Nat) (l : List Int) (w : World) (h : Holds w a len l) :
    Calls Try.prog 13 #[.slice a len cap] w fun e w' => e = .returned (.tuple #[.int .i64 (nv l.sum), .int .i64 (ne l.sum)]) ∧ Below w.heap.size w w' := by
  obtain ⟨h1, h2, h3, h4⟩ := h
  by_cases hp : 0 < len
  · obtain ⟨b, off, rfl, hc⟩ := h4 hp
    have h := sum_row b off len cap l w (by omega) h2 h3 (by rw [h1]; exact hc)
    rw [List.take_of_length_le (by omega)] at h
    exact h
  · obtain rfl : len = 0 := by omega
    obtain rfl : l = [] := List.length_eq_zero_iff.1 h1
    exact sum_zero a cap w

theorem rsum_any (a : Option Addr) (len cap : Nat) (l : List Int) (w : World) (h : Holds w a len l) :
    Calls Try.prog 14 #[.slice a len cap] w fun e w' => e = .returned (.tuple #[.int .i64 (nv l.sum), .int .i64 (ne l.sum)]) ∧ Below w.heap.size w w' := by
  obtain ⟨h1, h2, h3, h4⟩ := h
  by_cases hp : 0 < len
  · obtain ⟨b, off, rfl, hc⟩ := h4 hp
    have h := rsum_row b off len cap l w (by omega) h2 h3 (by rw [h1]; exact hc)
    rw [List.take_of_length_le (by omega)] at h
    exact h
  · obtain rfl : len = 0 := by omega
    obtain rfl : l = [] := List.length_eq_zero_iff.1 h1
    exact rsum_zero a cap w

end Go.Proofs.Ytmdhcigkhapolaa
