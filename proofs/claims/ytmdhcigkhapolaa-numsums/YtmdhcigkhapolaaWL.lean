/-
  Contracts: sums of lists.
-/
import Derived.Test.YtmdhcigkhapolaaWK
import Derived.Test.YtmdhcigkhapolaaOpen
import Derived.Deep.RegionHeld3
namespace Go.Proofs.Ytmdhcigkhapolaa
open Go.RowKit

/-- The sums of a list's numbers from 0 on, and of the sizes of those below 0. -/
def psum : List Int → Int
  | [] => 0
  | x :: l => (if x < 0 then 0 else x) + psum l
def nsum : List Int → Int
  | [] => 0
  | x :: l => (if x < 0 then -x else 0) + nsum l

theorem psum_snoc (l : List Int) (x : Int) : psum (l ++ [x]) = psum l + if x < 0 then 0 else x := by
  induction l with
  | nil => simp [psum]
  | cons y l ih => simp [psum, ih]; omega
theorem nsum_snoc (l : List Int) (x : Int) : nsum (l ++ [x]) = nsum l + if x < 0 then -x else 0 := by
  induction l with
  | nil => simp [nsum]
  | cons y l ih => simp [nsum, ih]; omega
theorem sum_pn (l : List Int) : l.sum = psum l - nsum l := by
  induction l with
  | nil => simp [psum, nsum]
  | cons y l ih => simp [psum, nsum, ih]; split <;> omega
theorem pn_bd (l : List Int) (h : ∀ x ∈ l, I64 x) : 0 ≤ psum l ∧ 0 ≤ nsum l ∧ psum l ≤ l.length * 9223372036854775808 ∧ nsum l ≤ l.length * 9223372036854775808 := by
  induction l with
  | nil => simp [psum, nsum]
  | cons y l ih =>
    have := ih (fun x hx => h x (List.mem_cons_of_mem _ hx))
    have hy := h y List.mem_cons_self
    unfold I64 at hy
    simp only [psum, nsum, List.length_cons]
    split <;> omega
theorem take_snoc {l : List Int} {k : Nat} (h : k < l.length) : l.take (k + 1) = l.take k ++ [l[k]?.getD 0] := by
  rw [List.take_succ_eq_append_getElem h]; simp [List.getElem?_eq_getElem h]

theorem sgn_sub (p n : Int) : sgn (decide (p < n)) ((p - n).natAbs : Int) = p - n := by
  unfold sgn
  by_cases h : p < n
  · simp [h]; omega
  · simp [h]; omega

set_option maxHeartbeats 1000000 in
theorem sum_row (b off len cap : Nat) (zs : List Int) (w : World) (hl : len ≤ zs.length) (hm : len ≤ 140737488355328) (hz : ∀ x ∈ zs, I64 x)
    (hc : ∀ j, j < zs.length → w.cell? ⟨b, off + j, none⟩ = some (.int .i64 (zs[j]?.getD 0))) :
    Calls Try.prog 13 #[.slice (some ⟨b, off, none⟩) len cap] w fun e w' => e = .returned (.tuple #[.int .i64 (nv (zs.take len).sum), .int .i64 (ne (zs.take len).sum)]) ∧ Below w.heap.size w w' := by
  have HC := hid hc
  clear hc
  go_enter Try.func13, Try.ntmps13
  go_wp2_with fail
  go_loopw [10] (fun i wr => ∃ k : Nat, k ≤ len ∧ i = .int .i64 k ∧ Below w.heap.size w wr
      ∧ wr.cell? ⟨w.heap.size, 0, none⟩ = some (.int .u64 (hi (psum (zs.take k)))) ∧ wr.cell? ⟨w.heap.size, 1, none⟩ = some (.int .u64 (lo (psum (zs.take k))))
      ∧ wr.cell? ⟨w.heap.size, 2, none⟩ = some (.int .u64 (hi (nsum (zs.take k)))) ∧ wr.cell? ⟨w.heap.size, 3, none⟩ = some (.int .u64 (lo (nsum (zs.take k))))
      ∧ wr.frozen? ⟨w.heap.size, 0, none⟩ = false ∧ wr.frozen? ⟨w.heap.size, 1, none⟩ = false ∧ wr.frozen? ⟨w.heap.size, 2, none⟩ = false ∧ wr.frozen? ⟨w.heap.size, 3, none⟩ = false) (fun i _ => len - (intOf i).toNat)
  case atStart =>
    refine ⟨0, by omega, rfl, (by repeat (first | exact Below.refl _ _ | assumption | refine Below.alloc ?_ (by simp <;> omega) _ | refine Below.setCell ?_ (by simp <;> omega) _ | refine Below.drew ?_ | refine below_drewN ?_ _)), ?_⟩
    simp [psum, nsum, hl_zero.1, hl_zero.2, go_sem]
  case round =>
    obtain ⟨k, hk, rfl, hB, c0, c1, c2, c3, f0, f1, f2, f3⟩ := hrel
    have hlt := cell_lt c0
    simp only at hlt
    by_cases hlt' : k < len
    · have hx : I64 (zs[k]?.getD 0) := by rw [List.getElem?_eq_getElem (by omega)]; exact hz _ (List.getElem_mem _)
      have hcx : wr.cell? ⟨b, off + k, none⟩ = some (.int .i64 (zs[k]?.getD 0)) := (hB.cell (p := ⟨b, off + k, none⟩) (cell_lt (HC.out k (by omega)))).trans (HC.out k (by omega))
      have bd := pn_bd (zs.take k) (fun x hx => hz x (List.mem_of_mem_take hx))
      obtain ⟨p0, n0, p1, n1⟩ := bd
      have hlen : (zs.take k).length ≤ k := List.length_take_le _ _
      have sp := psum_snoc (zs.take k) (zs[k]?.getD 0)
      have sn := nsum_snoc (zs.take k) (zs[k]?.getD 0)
      rw [← take_snoc (by omega)] at sp sn
      generalize zs[k]?.getD 0 = x at *
      generalize psum (zs.take k) = P at *
      generalize nsum (zs.take k) = N at *
      have bx : (x.natAbs : Int) ≤ 18446744073709551615 := by unfold I64 at hx; omega
      have n2 : 0 ≤ hi N := by unfold hi; omega
      have n3 : hi (N + (x.natAbs : Int)) ≤ 18446744073709551615 := by unfold hi; unfold I64 at hx; omega
      have p2 : 0 ≤ hi P := by unfold hi; omega
      have p3 : hi (P + (x.natAbs : Int)) ≤ 18446744073709551615 := by unfold hi; unfold I64 at hx; omega
      have SP := hid sp
      have SN := hid sn
      clear sp sn
      by_cases hneg : x < 0
      · have t1 : decide (x < 0) = true := by simp; omega
        have EX0 : (x.natAbs : Int) = -x := by omega
        have EX := EX0
        have EXH := hid EX0
        clear EX0 EX
        go_wp2_with fail
        go_region_with (first
          | (go_at_call 32; refine (size_any x hx _).mono ?_; rintro e w1 ⟨rfl, rfl⟩)
          | (go_at_call 31; refine (wplus_any N (x.natAbs : Int) (by omega) bx n2 n3 _).mono ?_; rintro e w1 ⟨rfl, h1⟩; have d0 := keepc h1 c0; have d1 := keepc h1 c1; have d2 := keepc h1 c2; have d3 := keepc h1 c3; have g0 := keepf h1 c0 f0; have g1 := keepf h1 c1 f1; have g2 := keepf h1 c2 f2; have g3 := keepf h1 c3 f3; clear c0 c1 c2 c3 f0 f1 f2 f3))
        all_goals
          go_wp2
          have hB1 := hB.drew.trans (h1.mono hB.size)
          have hr1 := hB1.size
          have e1 := SP.out
          have e2 := SN.out
          rw [if_pos hneg] at e1 e2
          go_roundw
          case rel => exact ⟨k + 1, by omega, by go_num, (hB1.setCell (by simp <;> omega) _).setCell (by simp <;> omega) _, by rw [e1]; simp [go_sem, d0], by rw [e1]; simp [go_sem, d1], by rw [e2]; simp [go_sem, d2, EXH.out], by rw [e2]; simp [go_sem, d3, EXH.out], by simp [go_sem, g0], by simp [go_sem, g1], by simp [go_sem, g2], by simp [go_sem, g3]⟩
          case measure => simp [intOf]; omega
      · have t1 : decide (x < 0) = false := by simp; omega
        have EX : (x.natAbs : Int) = x := by omega
        have EX := hid EX
        rename_i EX0
        clear EX0
        go_wp2_with fail
        go_region_with (first
          | (go_at_call 32; refine (size_any x hx _).mono ?_; rintro e w1 ⟨rfl, rfl⟩)
          | (go_at_call 31; refine (wplus_any P (x.natAbs : Int) (by omega) bx p2 p3 _).mono ?_; rintro e w1 ⟨rfl, h1⟩; have d0 := keepc h1 c0; have d1 := keepc h1 c1; have d2 := keepc h1 c2; have d3 := keepc h1 c3; have g0 := keepf h1 c0 f0; have g1 := keepf h1 c1 f1; have g2 := keepf h1 c2 f2; have g3 := keepf h1 c3 f3; clear c0 c1 c2 c3 f0 f1 f2 f3))
        all_goals
          go_wp2
          have hB1 := hB.drew.trans (h1.mono hB.size)
          have hr1 := hB1.size
          have e1 := SP.out
          have e2 := SN.out
          rw [if_neg (by omega)] at e1 e2
          go_roundw
          case rel => exact ⟨k + 1, by omega, by go_num, (hB1.setCell (by simp <;> omega) _).setCell (by simp <;> omega) _, by rw [e1]; simp [go_sem, d0, EX.out], by rw [e1]; simp [go_sem, d1, EX.out], by rw [e2]; simp [go_sem, d2, EX.out], by rw [e2]; simp [go_sem, d3, EX.out], by simp [go_sem, g0], by simp [go_sem, g1], by simp [go_sem, g2], by simp [go_sem, g3]⟩
          case measure => simp [intOf]; omega
    · obtain rfl : k = len := by omega
      have hd : (zs.take k).sum = psum (zs.take k) - nsum (zs.take k) := sum_pn _
      have bd := pn_bd (zs.take k) (fun x hx => hz x (List.mem_of_mem_take hx))
      obtain ⟨p0, n0, p1, n1⟩ := bd
      have hlen : (zs.take k).length ≤ k := List.length_take_le _ _
      have HD := hid hd
      clear hd
      generalize psum (zs.take k) = P at *
      generalize nsum (zs.take k) = N at *
      have p3 : hi P ≤ 18446744073709551615 := by unfold hi; omega
      have n3 : hi N ≤ 18446744073709551615 := by unfold hi; omega
      go_wp2_with fail
      refine (difference_any P N p0 n0 p3 n3 _).mono ?_
      rintro e w1 ⟨rfl, h1⟩
      go_wp2_with fail
      refine (narrow_at (P - N) (s := decide (P < N)) (m := ((P - N).natAbs : Int)) (by omega) (sgn_sub P N) rfl rfl _).mono ?_
      rintro e w2 ⟨rfl, h2⟩
      rw [← HD.out]
      have hB1 := hB.trans (h1.mono hB.size)
      have hB2 := hB1.trans (h2.mono hB1.size)
      go_wp2
      go_ret2
      exact ⟨rfl, hB2⟩

end Go.Proofs.Ytmdhcigkhapolaa
