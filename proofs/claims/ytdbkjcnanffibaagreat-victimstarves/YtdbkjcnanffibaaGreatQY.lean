/-
  The document's answer for queues: the Mins, Check.
-/
import Derived.Test.YtdbkjcnanffibaaGreatQX
import Derived.Test.YtdbkjcnanffibaaGreatQF
import Derived.Test.YtdbkjcnanffibaaGreatQK
namespace Go.Proofs.YtdbkjcnanffibaaGreat
open Go.RowKit Go.Deep Go.Maps Go.Shelf
set_option linter.unusedVariables false

set_option maxRecDepth 100000 in
set_option maxHeartbeats 4000000 in
theorem mins_row (b off len cap : Nat) (l : List Qu) (w : World) (h : HoldsQ w (some ⟨b, off, none⟩) len cap l) (hp : 0 < len) (hm : len ≤ 64) (hA : argB l = true) :
    Calls Tryz.prog 58 #[.slice (some ⟨b, off, none⟩) len cap] w fun e w' => e = .returned (.bool (minsB l)) ∧ Below w.heap.size w w' := by
  have HL := hid h.1
  have hcap := h.2.1
  have hcm := h.2.2.1
  obtain ⟨b', off', e, R⟩ := h.row hp
  cases e
  have HR := hid R
  have HA := hid hA
  clear R h hA
  go_enter Tryz.func58, Tryz.ntmps58
  go_wp2_with fail
  go_loopw [11] (fun i wr => ∃ k : Nat, k ≤ len ∧ i = .int .i64 k ∧ Hid ((l.take k).all (minQ l) = true) ∧ Below w.heap.size w wr) (fun i _ => len - (intOf i).toNat)
  case atStart => exact ⟨0, by omega, rfl, by simp [Hid], Below.refl _ _⟩
  case round =>
    obtain ⟨k, hk, rfl, ha, hB⟩ := hrel
    rename World => WR
    by_cases hlt : k < len
    · have hlt' : k < l.length := by rw [HL.out]; exact hlt
      have HR2 := hid (HR.out.below hB)
      obtain ⟨c0, c1, c2, c3, c4, c5, c6⟩ := HR2.out.2 k hlt'
      have NO : minQ l (qa l k) = false → minsB l = false := fun h => allQ_no hlt' h
      have YES : minQ l (qa l k) = true → (l.take (k + 1)).all (minQ l) = true := fun h => allQ_yes hlt' ha.out h
      unfold minQ at NO YES
      have HN := hid NO
      have HY := hid YES
      clear NO YES ha
      generalize qa l k = q at *
      obtain ⟨q1, q2, q3, q4, q5, q6, q7⟩ := q
      simp only at *
      have hBr : Below WR.heap.size WR (WR.alloc (.cells #[.int .i64 q1, .int .i64 q2, .int .i64 q3, .int .i64 q4, .int .i64 q5, .int .i64 q6, .int .i64 q7] 38)) := (Below.refl _ WR).alloc (Nat.le_refl _) _
      have HBr := hid hBr
      have e0 : (WR.alloc (.cells #[.int .i64 q1, .int .i64 q2, .int .i64 q3, .int .i64 q4, .int .i64 q5, .int .i64 q6, .int .i64 q7] 38)).cell? ⟨WR.heap.size, 0, none⟩ = some (.int .i64 q1) := by simp [go_sem]
      have e3 : (WR.alloc (.cells #[.int .i64 q1, .int .i64 q2, .int .i64 q3, .int .i64 q4, .int .i64 q5, .int .i64 q6, .int .i64 q7] 38)).cell? ⟨WR.heap.size, 3, none⟩ = some (.int .i64 q4) := by simp [go_sem]
      have e4 : (WR.alloc (.cells #[.int .i64 q1, .int .i64 q2, .int .i64 q3, .int .i64 q4, .int .i64 q5, .int .i64 q6, .int .i64 q7] 38)).cell? ⟨WR.heap.size, 4, none⟩ = some (.int .i64 q5) := by simp [go_sem]
      have e5 : (WR.alloc (.cells #[.int .i64 q1, .int .i64 q2, .int .i64 q3, .int .i64 q4, .int .i64 q5, .int .i64 q6, .int .i64 q7] 38)).cell? ⟨WR.heap.size, 5, none⟩ = some (.int .i64 q6) := by simp [go_sem]
      have e6 : (WR.alloc (.cells #[.int .i64 q1, .int .i64 q2, .int .i64 q3, .int .i64 q4, .int .i64 q5, .int .i64 q6, .int .i64 q7] 38)).cell? ⟨WR.heap.size, 6, none⟩ = some (.int .i64 q7) := by simp [go_sem]
      go_wp2_with fail
      clear c0 c1 c2 c3 c4 c5 c6 hBr
      go_loopw [5, 6, 17] (fun c m i wr2 => ∃ j : Nat, j ≤ len ∧ i = .int .i64 j ∧ c = .int .i64 (sumc (l.take j) q1) ∧ m = .int .i64 (summ (l.take j) q1) ∧ Below (WR.alloc (.cells #[.int .i64 q1, .int .i64 q2, .int .i64 q3, .int .i64 q4, .int .i64 q5, .int .i64 q6, .int .i64 q7] 38)).heap.size (WR.alloc (.cells #[.int .i64 q1, .int .i64 q2, .int .i64 q3, .int .i64 q4, .int .i64 q5, .int .i64 q6, .int .i64 q7] 38)) wr2) (fun _ _ i _ => len - (intOf i).toNat)
      case atStart => exact ⟨0, by omega, rfl, rfl, rfl, Below.refl _ _⟩
      case round =>
        obtain ⟨j, hj, rfl, rfl, rfl, hB2⟩ := hrel
        have hB3 : Below WR.heap.size WR wr := HBr.out.trans (hB2.mono HBr.out.size)
        by_cases hlt2 : j < len
        · have hj' : j < l.length := by rw [HL.out]; exact hlt2
          obtain ⟨d0, d1, d2, d3, d4, d5, d6⟩ := (HR2.out.below hB3).2 j hj'
          have f0 := keepc hB2 e0
          have bd := sum_bd (argB_take HA.out j) q1
          have bl : (l.take j).length ≤ 64 := by simp; omega
          obtain ⟨b1, b2, b3, b4⟩ := bd
          have mv := okv_true (arg_at HA.out (qa_mem hj')).2.2
          obtain ⟨mv1, mv2⟩ := mv
          unfold okp at mv1 mv2
          obtain ⟨mv1, mv1'⟩ := mv1
          obtain ⟨mv2, mv2'⟩ := mv2
          have b3' : sumc (l.take j) q1 ≤ 70368744177664 := by omega
          have b4' : summ (l.take j) q1 ≤ 70368744177664 := by omega
          have S1 := hid (sumc_snoc (l.take j) (qa l j) q1)
          have S2 := hid (summ_snoc (l.take j) (qa l j) q1)
          rw [← take_snocQ hj'] at S1 S2
          have hfw := cell_lt f0
          simp only at hfw
          clear b3 b4 bl
          generalize sumc (l.take j) q1 = C at *
          generalize summ (l.take j) q1 = M at *
          generalize qa l j = p at *
          obtain ⟨p1, p2, p3, p4, p5, p6, p7⟩ := p
          simp only at *
          have g0 : (wr.alloc (.cells #[.int .i64 p1, .int .i64 p2, .int .i64 p3, .int .i64 p4, .int .i64 p5, .int .i64 p6, .int .i64 p7] 38)).cell? ⟨WR.heap.size, 0, none⟩ = some (.int .i64 q1) := keepc ((Below.refl _ wr).alloc (Nat.le_refl _) _) f0
          by_cases hpar : p2 = q1
          · have tp : (p2 == q1) = true := by simpa using hpar
            have E1 := S1.out
            have E2 := S2.out
            rw [if_pos hpar] at E1 E2
            have HE1 := hid E1
            have HE2 := hid E2
            clear E1 E2 S1 S2 hpar
            go_wp2
            go_roundw
            case rel => exact ⟨j + 1, by omega, by go_num, by rw [HE1.out], by rw [HE2.out], hB2.alloc hB2.size _⟩
            case measure => simp [intOf]; omega
          · have tp : (p2 == q1) = false := by simpa using hpar
            have E1 := S1.out
            have E2 := S2.out
            rw [if_neg hpar] at E1 E2
            have HE1 := hid E1
            have HE2 := hid E2
            clear E1 E2 S1 S2 hpar
            go_wp2
            go_roundw
            case rel => exact ⟨j + 1, by omega, by go_num, by rw [HE1.out, Int.add_zero], by rw [HE2.out, Int.add_zero], hB2.alloc hB2.size _⟩
            case measure => simp [intOf]; omega
        · have et : l.take j = l := List.take_of_length_le (by rw [HL.out]; omega)
          rw [et]
          clear et
          have m0 := keepc hB2 e0
          have m3 := keepc hB2 e3
          have m4 := keepc hB2 e4
          have m5 := keepc hB2 e5
          have m6 := keepc hB2 e6
          have hBw : Below w.heap.size w wr := hB.trans (hB3.mono hB.size)
          clear hB2 hB3
          generalize sumc l q1 = C at *
          generalize summ l q1 = M at *
          cases h1 : fitB q6 q7 q4 q5
          · have E := hid (HN.out (by rw [h1]; rfl))
            have F := hid (rfits_any q6 q7 q4 q5 wr)
            rw [h1] at F
            clear HN HY h1
            go_wp2_with fail
            refine F.out.mono ?_
            rintro e w1 ⟨rfl, j1⟩
            have hB9 := hBw.trans (j1.mono hBw.size)
            go_wp2
            go_ret
            exact ⟨retb E.out.symm, hB9⟩
          · have F := hid (rfits_any q6 q7 q4 q5 wr)
            rw [h1] at F
            by_cases g1 : q6 < C
            · have E := hid (HN.out (by rw [h1]; simp; intro h; omega))
              have t1 : decide (q6 < C) = true := by simp; omega
              clear HN HY h1
              go_wp2_with fail
              refine F.out.mono ?_
              rintro e w1 ⟨rfl, j1⟩
              have hB9 := hBw.trans (j1.mono hBw.size)
              have n5 := keepc j1 m5
              have n6 := keepc j1 m6
              clear m0 m3 m4 m5 m6
              go_wp2
              go_ret
              exact ⟨retb E.out.symm, hB9⟩
            · have t1 : decide (q6 < C) = false := by simp; omega
              by_cases g2 : q7 < M
              · have E := hid (HN.out (by rw [h1]; simp; intro h; omega))
                have t2 : decide (q7 < M) = true := by simp; omega
                clear HN HY h1
                go_wp2_with fail
                refine F.out.mono ?_
                rintro e w1 ⟨rfl, j1⟩
                have hB9 := hBw.trans (j1.mono hBw.size)
                have n5 := keepc j1 m5
                have n6 := keepc j1 m6
                clear m0 m3 m4 m5 m6
                go_wp2
                go_ret
                exact ⟨retb E.out.symm, hB9⟩
              · have E := hid (HY.out (by rw [h1]; simp; omega))
                have t2 : decide (q7 < M) = false := by simp; omega
                clear HN HY h1
                go_wp2_with fail
                refine F.out.mono ?_
                rintro e w1 ⟨rfl, j1⟩
                have hB9 := hBw.trans (j1.mono hBw.size)
                have n5 := keepc j1 m5
                have n6 := keepc j1 m6
                clear m0 m3 m4 m5 m6
                go_wp2
                go_roundw
                case rel => exact ⟨k + 1, by omega, by go_num, E, hB9⟩
                case measure => simp [intOf]; omega
    · have hall : Hid (minsB l = true) := by have h := ha.out; rw [List.take_of_length_le (show l.length ≤ k by rw [HL.out]; omega)] at h; exact h
      go_wp2
      go_ret
      exact ⟨retb hall.out.symm, hB⟩

end Go.Proofs.YtdbkjcnanffibaaGreat
