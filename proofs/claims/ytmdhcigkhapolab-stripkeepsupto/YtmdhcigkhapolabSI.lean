/-
  Contracts of strip: the weights of bytes; bytes guarded, by the program and by the document.
-/
import Derived.Test.YtmdhcigkhapolabSH
namespace Go.Proofs.Ytmdhcigkhapolab
open Go.RowKit Go.Deep
set_option linter.unusedVariables false

/-- The two sums of the first k bytes. -/
def W1 (l : List Int) (k : Nat) : Int := ((List.range k).map fun i => l[i]?.getD 0).sum
def W2 (l : List Int) (k : Nat) : Int := ((List.range k).map fun i : Nat => l[i]?.getD 0 * ((i : Int) + 1)).sum
theorem W1_succ (l : List Int) (k : Nat) : W1 l (k + 1) = W1 l k + l[k]?.getD 0 := by simp [W1, List.range_succ]
theorem W2_succ (l : List Int) (k : Nat) : W2 l (k + 1) = W2 l k + l[k]?.getD 0 * ((k : Int) + 1) := by simp [W2, List.range_succ]
theorem term_bd {x : Int} {k : Nat} (x0 : 0 ≤ x) (x1 : x ≤ 255) (hk : k < 60000) : 0 ≤ x * ((k : Int) + 1) ∧ x * ((k : Int) + 1) ≤ 15300000 := by
  refine ⟨Int.mul_nonneg x0 (by omega), ?_⟩
  have : x * ((k : Int) + 1) ≤ 255 * 60000 := Int.mul_le_mul x1 (by omega) (by omega) (by omega)
  omega
theorem W_bd (l : List Int) (h : BB l) (k : Nat) (hk : k ≤ 60000) : 0 ≤ W1 l k ∧ W1 l k ≤ 255 * k ∧ 0 ≤ W2 l k ∧ W2 l k ≤ 15300000 * k := by
  induction k with
  | zero => simp [W1, W2]
  | succ k ih =>
    have := ih (by omega)
    have x := h.getD k
    have t := term_bd (k := k) x.1 x.2 (by omega)
    rw [W1_succ, W2_succ]
    omega
def P1 (l : List Int) : Int := W1 l l.length % 65521
def P2 (l : List Int) : Int := W2 l l.length % 65521
theorem P_bd (l : List Int) : 0 ≤ P1 l ∧ P1 l < 65521 ∧ 0 ≤ P2 l ∧ P2 l < 65521 := by unfold P1 P2; omega
/-- Bytes guarded. -/
def gd (l : List Int) : List Int := l ++ [P1 l / 256, P1 l % 256, P2 l / 256, P2 l % 256]
theorem gd_BB {l : List Int} (h : BB l) : BB (gd l) := by
  have := P_bd l
  exact h.app (BB.cons (by omega) (by omega) (BB.cons (by omega) (by omega) (BB.cons (by omega) (by omega) (BB.one (by omega) (by omega)))))

set_option maxHeartbeats 2000000 in
theorem rweights_row (b off len cap : Nat) (l : List Int) (w : World) (hl : l.length = len) (hm : len ≤ 60000) (hbb : BB l) (hc : ∀ j, j < len → w.cell? ⟨b, off + j, none⟩ = some (.int .u8 (l[j]?.getD 0))) :
    Calls Try.prog 42 #[.slice (some ⟨b, off, none⟩) len cap] w fun e w' => e = .returned (.tuple #[.int .i64 (P1 l), .int .i64 (P2 l)]) ∧ w = w' := by
  have HC := hid hc
  have HL := hid hl
  clear hc hl
  go_enter Try.func42, Try.ntmps42
  go_wp2_with fail
  go_loop [4, 5, 6] (fun f s i => ∃ k : Nat, k ≤ len ∧ i = .int .i64 k ∧ f = .int .i64 (W1 l k) ∧ s = .int .i64 (W2 l k)) (fun _ _ i => len - (intOf i).toNat)
  case atStart => exact ⟨0, by omega, rfl, rfl, rfl⟩
  case round =>
    obtain ⟨k, hk, rfl, rfl, rfl⟩ := hrel
    have bd := W_bd l hbb k (by omega)
    obtain ⟨d0, d1, d2, d3⟩ := bd
    by_cases hlt : k < len
    · have cx := HC.out k hlt
      have x := hbb.getD k
      have t := term_bd (k := k) x.1 x.2 (by omega)
      have U1 := hid (W1_succ l k)
      have U2 := hid (W2_succ l k)
      obtain ⟨x0, x1⟩ := x
      obtain ⟨t0, t1⟩ := t
      generalize l[k]?.getD 0 = x at *
      generalize W1 l k = a at *
      generalize W2 l k = c at *
      go_wp2
      go_round
      case rel => exact ⟨k + 1, by omega, by go_num, by rw [U1.out], by rw [U2.out]⟩
      case measure => simp [intOf]; omega
    · obtain rfl : k = len := by omega
      have E1 : Hid (P1 l = W1 l k % 65521) := by unfold Hid P1; rw [HL.out]
      have E2 : Hid (P2 l = W2 l k % 65521) := by unfold Hid P2; rw [HL.out]
      go_wp2
      go_ret2
      exact ⟨ret2 E1.out.symm E2.out.symm, rfl⟩
set_option maxHeartbeats 1000000 in
theorem rweights_zero (a : Option Addr) (cap : Nat) (w : World) :
    Calls Try.prog 42 #[.slice a 0 cap] w fun e w' => e = .returned (.tuple #[.int .i64 0, .int .i64 0]) ∧ w = w' := by
  go_enter Try.func42, Try.ntmps42
  go_wp2_with fail
  go_loop [4, 5, 6] (fun f s i => i = .int .i64 0 ∧ f = .int .i64 0 ∧ s = .int .i64 0) (fun _ _ i => 0)
  case atStart => exact ⟨rfl, rfl, rfl⟩
  case round =>
    obtain ⟨rfl, rfl, rfl⟩ := hrel
    go_wp2
    go_ret2
    exact ⟨rfl, rfl⟩
theorem rweights_any (a : Option Addr) (len cap : Nat) (l : List Int) (w : World) (h : HoldsB w a len cap l) (hm : len ≤ 60000) :
    Calls Try.prog 42 #[.slice a len cap] w fun e w' => e = .returned (.tuple #[.int .i64 (P1 l), .int .i64 (P2 l)]) ∧ w = w' := by
  obtain ⟨h1, h2, h3, h4, h5, h6, h7⟩ := h
  by_cases hp : 0 < len
  · obtain ⟨b, off, rfl, hc⟩ := h7 hp
    exact rweights_row b off len cap l w h1 hm h5 hc
  · obtain rfl : len = 0 := by omega
    obtain rfl : l = [] := List.length_eq_zero_iff.1 h1
    exact rweights_zero a cap w

/-- The cells of an array of two, and that they may be written. -/
def Arr (w : World) (B : Nat) (x y : Int) : Prop := w.cell? ⟨B, 0, none⟩ = some (.int .i64 x) ∧ w.cell? ⟨B, 1, none⟩ = some (.int .i64 y) ∧ w.frozen? ⟨B, 0, none⟩ = false ∧ w.frozen? ⟨B, 1, none⟩ = false

set_option maxHeartbeats 4000000 in
theorem weigh_row (a : Option Addr) (len cap : Nat) (l : List Int) (w : World) (hl : l.length = len) (hm : len ≤ 60000) (hbb : BB l) (hc : 0 < len → ∃ b off, a = some ⟨b, off, none⟩ ∧ ∀ j, j < len → w.cell? ⟨b, off + j, none⟩ = some (.int .u8 (l[j]?.getD 0))) :
    Calls Try.prog 41 #[.slice a len cap] w fun e w' => e = .returned (.agg #[.int .i64 (P1 l), .int .i64 (P2 l)]) ∧ Below w.heap.size w w' := by
  have HC := hid hc
  have HL := hid hl
  clear hc hl
  go_enter Try.func41, Try.ntmps41
  go_wp2_with fail
  go_loopw [9] (fun i wr => ∃ k : Nat, k ≤ len ∧ i = .int .i64 k ∧ Arr wr w.heap.size 0 0 ∧ Arr wr (w.heap.size + 1) (W1 l k) (W2 l k) ∧ Below w.heap.size w wr) (fun i _ => len - (intOf i).toNat)
  case atStart => exact ⟨0, by omega, rfl, by simp [Arr, go_sem], by simp [Arr, go_sem, W1, W2], (by repeat (first | exact Below.refl _ _ | assumption | refine Below.alloc ?_ (by simp <;> omega) _ | refine Below.setCell ?_ (by simp <;> omega) _ | refine Below.drew ?_ | refine below_drewN ?_ _))⟩
  case round =>
    obtain ⟨k, hk, rfl, ⟨e0, e1, e2, e3⟩, ⟨c0, c1, f0, f1⟩, hB⟩ := hrel
    have bd := W_bd l hbb k (by omega)
    obtain ⟨d0, d1, d2, d3⟩ := bd
    by_cases hlt : k < len
    · obtain ⟨b, off, rfl, hc⟩ := HC.out (by omega)
      have cx : wr.cell? ⟨b, off + k, none⟩ = some (.int .u8 (l[k]?.getD 0)) := (hB.cell (p := ⟨b, off + k, none⟩) (cell_lt (hc k hlt))).trans (hc k hlt)
      have x := hbb.getD k
      have t := term_bd (k := k) x.1 x.2 (by omega)
      have U1 := hid (W1_succ l k)
      have U2 := hid (W2_succ l k)
      obtain ⟨x0, x1⟩ := x
      obtain ⟨t0, t1⟩ := t
      have HCC := hid hc
      clear hc HC
      generalize l[k]?.getD 0 = x at *
      generalize W1 l k = aa at *
      generalize W2 l k = cc at *
      go_wp2
      go_roundw
      case rel => exact ⟨k + 1, by omega, by go_num, by simp [Arr, go_sem, e0, e1, e2, e3], by rw [U1.out, U2.out]; simp [Arr, go_sem, c0, c1, f0, f1], (hB.setCell (by simp <;> omega) _).setCell (by simp <;> omega) _⟩
      case measure => simp [intOf]; omega
    · obtain rfl : k = len := by omega
      have E1 : Hid (P1 l = W1 l k % 65521) := by unfold Hid P1; rw [HL.out]
      have E2 : Hid (P2 l = W2 l k % 65521) := by unfold Hid P2; rw [HL.out]
      generalize W1 l k = aa at *
      generalize W2 l k = cc at *
      go_wp2_with fail
      go_loopw [30] (fun i wr => ∃ j : Nat, j ≤ 2 ∧ i = .int .i64 j ∧ Arr wr w.heap.size 0 0 ∧ Arr wr (w.heap.size + 1) (if j = 0 then aa else aa % 65521) (if j = 2 then cc % 65521 else cc) ∧ Below w.heap.size w wr) (fun i _ => 2 - (intOf i).toNat)
      case atStart => exact ⟨0, by omega, rfl, ⟨e0, e1, e2, e3⟩, ⟨c0, c1, f0, f1⟩, hB⟩
      case round =>
        clear e0 e1 e2 e3 c0 c1 f0 f1 hB
        obtain ⟨j, hj, rfl, ⟨e0, e1, e2, e3⟩, ⟨c0, c1, f0, f1⟩, hB⟩ := hrel
        obtain rfl | rfl | rfl : j = 0 ∨ j = 1 ∨ j = 2 := by omega
        · simp at c0 c1
          go_wp2
          go_roundw
          case rel => exact ⟨1, by omega, by go_num, by simp [Arr, go_sem, e0, e1, e2, e3], by simp [Arr, go_sem, c0, c1, f0, f1], hB.setCell (by simp <;> omega) _⟩
          case measure => simp [intOf]
        · simp at c0 c1
          go_wp2
          go_roundw
          case rel => exact ⟨2, by omega, by go_num, by simp [Arr, go_sem, e0, e1, e2, e3], by simp [Arr, go_sem, c0, c1, f0, f1], hB.setCell (by simp <;> omega) _⟩
          case measure => simp [intOf]
        · simp at c0 c1
          go_wp2
          exact bodyPost_ret (v := .agg #[.int .i64 (P1 l), .int .i64 (P2 l)]) (by simp [results, Try.results41, go_sem, e0, e1, E1.out, E2.out]) rfl ⟨rfl, (hB.setCell (by simp <;> omega) _).setCell (by simp <;> omega) _⟩

end Go.Proofs.Ytmdhcigkhapolab
