/-
  Contracts of queue: inRange, guaranteed, read, Check.
-/
import Derived.Test.YtdbkjcnanffibaaQE
namespace Go.Proofs.Ytdbkjcnanffibaa
open Go.RowKit Go.Deep Go.Maps Go.Shelf
set_option linter.unusedVariables false

theorem allQ_yes {l : List Qu} {f : Qu → Bool} {k : Nat} (hk : k < l.length) (h : (l.take k).all f = true) (ho : f (qa l k) = true) : (l.take (k + 1)).all f = true := by
  rw [take_snocQ hk, List.all_append, h]
  simp [ho]
theorem allQ_no {l : List Qu} {f : Qu → Bool} {k : Nat} (hk : k < l.length) (ho : f (qa l k) = false) : l.all f = false :=
  List.all_eq_false.2 ⟨_, qa_mem hk, by simp [ho]⟩
theorem chk_t {c m : Int} (h : okv (c, m) = true) : (chk c m != 0) = false := by rw [chk_ok h]; decide
theorem chk_f {c m : Int} (h : okv (c, m) = false) : (chk c m != 0) = true := by rw [chk_no h]; decide

set_option maxRecDepth 100000 in
set_option maxHeartbeats 2000000 in
theorem inRange_q (lb off len cap mb : Nat) (l : List Qu) (w : World) (hT : Tree w lb off len cap mb l) :
    Calls Try.prog 43 #[tv lb off len cap mb] w fun e w' => e = .returned (.bool (argB l)) ∧ Below w.heap.size w w' := by
  have HT := hid hT
  have HL := hid hT.hlen
  have hcap := hT.hcap
  have hle := hT.hle
  clear hT
  go_enter Try.func43, Try.ntmps43
  go_wp2_with fail
  go_loopw [8] (fun i wr => ∃ k : Nat, k ≤ len ∧ i = .int .i64 k ∧ Hid ((l.take k).all argQ = true) ∧ Below w.heap.size w wr) (fun i _ => len - (intOf i).toNat)
  case atStart => exact ⟨0, by omega, rfl, by simp [Hid], (by repeat (first | exact Below.refl _ _ | assumption | refine Below.alloc ?_ (by simp <;> omega) _ | refine Below.setCell ?_ (by simp <;> omega) _ | refine Below.drew ?_ | refine below_drewN ?_ _))⟩
  case round =>
    obtain ⟨k, hk, rfl, ha, hB⟩ := hrel
    by_cases hlt : k < len
    · have hlt' : k < l.length := by rw [HL.out]; exact hlt
      obtain ⟨c0, c1, c2, c3, c4, c5, c6⟩ := (HT.out.row.below hB).2 k hlt'
      have NO : argQ (qa l k) = false → argB l = false := fun h => allQ_no hlt' h
      have YES : argQ (qa l k) = true → (l.take (k + 1)).all argQ = true := fun h => allQ_yes hlt' ha.out h
      unfold argQ at NO YES
      have HN := hid NO
      have HY := hid YES
      clear NO YES ha
      generalize qa l k = q at *
      obtain ⟨q1, q2, q3, q4, q5, q6, q7⟩ := q
      simp only at *
      by_cases g1 : q3 < 1
      · have t1 : decide (q3 < 1) = true := by simp; omega
        have E := hid (HN.out (by have : okw q3 = false := by { unfold okw; simp; omega }
                                  rw [this]; rfl))
        go_wp2
        go_ret
        exact ⟨retb E.out.symm, hB.alloc hB.size _⟩
      · have t1 : decide (q3 < 1) = false := by simp; omega
        by_cases g2 : 1048576 < q3
        · have t2 : decide (1048576 < q3) = true := by simp; omega
          have E := hid (HN.out (by have : okw q3 = false := by { unfold okw; simp; omega }
                                    rw [this]; rfl))
          go_wp2
          go_ret
          exact ⟨retb E.out.symm, hB.alloc hB.size _⟩
        · have t2 : decide (1048576 < q3) = false := by simp; omega
          have OW : okw q3 = true := by unfold okw; simp; omega
          cases h4 : okv (q4, q5)
          · have E := hid (HN.out (by rw [h4]; simp))
            have tk := chk_f h4
            clear HN HY h4 OW
            go_wp2_with fail
            refine (check_any q4 q5 _).mono ?_
            rintro e w1 ⟨rfl, h1⟩
            have hB1 := (hB.alloc hB.size (.cells #[.int .i64 q1, .int .i64 q2, .int .i64 q3, .int .i64 q4, .int .i64 q5, .int .i64 q6, .int .i64 q7] 53)).trans (h1.mono (by simp; have := hB.size; omega))
            go_wp2
            go_ret
            exact ⟨retb E.out.symm, hB1⟩
          · cases h6 : okv (q6, q7)
            · have E := hid (HN.out (by rw [h6]; simp))
              have tk := chk_t h4
              have tj := chk_f h6
              clear HN HY h4 h6 OW
              go_wp2_with fail
              refine (check_any q4 q5 _).mono ?_
              rintro e w1 ⟨rfl, h1⟩
              have m5 := keepc h1 (a := ⟨wr.heap.size, 5, none⟩) (v := .int .i64 q6) (by simp [go_sem])
              have m6 := keepc h1 (a := ⟨wr.heap.size, 6, none⟩) (v := .int .i64 q7) (by simp [go_sem])
              have hB1 := (hB.alloc hB.size (.cells #[.int .i64 q1, .int .i64 q2, .int .i64 q3, .int .i64 q4, .int .i64 q5, .int .i64 q6, .int .i64 q7] 53)).trans (h1.mono (by simp; have := hB.size; omega))
              go_wp2_with fail
              refine (check_any q6 q7 _).mono ?_
              rintro e w2 ⟨rfl, h2⟩
              have hB2 := hB1.trans (h2.mono hB1.size)
              go_wp2
              go_ret
              exact ⟨retb E.out.symm, hB2⟩
            · have E := hid (HY.out (by rw [OW, h4, h6]; rfl))
              have tk := chk_t h4
              have tj := chk_t h6
              clear HN HY h4 h6 OW
              go_wp2_with fail
              refine (check_any q4 q5 _).mono ?_
              rintro e w1 ⟨rfl, h1⟩
              have m5 := keepc h1 (a := ⟨wr.heap.size, 5, none⟩) (v := .int .i64 q6) (by simp [go_sem])
              have m6 := keepc h1 (a := ⟨wr.heap.size, 6, none⟩) (v := .int .i64 q7) (by simp [go_sem])
              have hB1 := (hB.alloc hB.size (.cells #[.int .i64 q1, .int .i64 q2, .int .i64 q3, .int .i64 q4, .int .i64 q5, .int .i64 q6, .int .i64 q7] 53)).trans (h1.mono (by simp; have := hB.size; omega))
              go_wp2_with fail
              refine (check_any q6 q7 _).mono ?_
              rintro e w2 ⟨rfl, h2⟩
              have hB2 := hB1.trans (h2.mono hB1.size)
              go_wp2
              go_roundw
              case rel => exact ⟨k + 1, by omega, by go_num, E, hB2⟩
              case measure => simp [intOf]; omega
    · have hall : Hid (argB l = true) := by have h := ha.out; rw [List.take_of_length_le (show l.length ≤ k by rw [HL.out]; omega)] at h; exact h
      go_wp2
      go_ret
      exact ⟨retb hall.out.symm, hB⟩

set_option maxRecDepth 100000 in
set_option maxHeartbeats 2000000 in
theorem guaranteed_q (lb off len cap mb : Nat) (l : List Qu) (w : World) (hT : Tree w lb off len cap mb l) (hA : argB l = true) :
    Calls Try.prog 44 #[tv lb off len cap mb] w fun e w' => e = .returned (.bool (minsB l)) ∧ Below w.heap.size w w' := by
  have HT := hid hT
  have HL := hid hT.hlen
  have hcap := hT.hcap
  have hle := hT.hle
  have HA := hid hA
  clear hT hA
  go_enter Try.func44, Try.ntmps44
  go_wp2_with fail
  go_loopw [8] (fun i wr => ∃ k : Nat, k ≤ len ∧ i = .int .i64 k ∧ Hid ((l.take k).all (minQ l) = true) ∧ (wr.cell? ⟨w.heap.size, 0, none⟩ = some (.slice (some ⟨lb, off, none⟩) len cap) ∧ wr.cell? ⟨w.heap.size, 1, none⟩ = some (.map (some mb))) ∧ Below w.heap.size w wr) (fun i _ => len - (intOf i).toNat)
  case atStart => exact ⟨0, by omega, rfl, by simp [Hid], by simp [go_sem], (by repeat (first | exact Below.refl _ _ | assumption | refine Below.alloc ?_ (by simp <;> omega) _ | refine Below.setCell ?_ (by simp <;> omega) _ | refine Below.drew ?_ | refine below_drewN ?_ _))⟩
  case round =>
    obtain ⟨k, hk, rfl, ha, ⟨b0, b1⟩, hB⟩ := hrel
    by_cases hlt : k < len
    · have hlt' : k < l.length := by rw [HL.out]; exact hlt
      have HT2 := hid (HT.out.below hB)
      obtain ⟨c0, c1, c2, c3, c4, c5, c6⟩ := (HT.out.row.below hB).2 k hlt'
      have NO : minQ l (qa l k) = false → minsB l = false := fun h => allQ_no hlt' h
      have YES : minQ l (qa l k) = true → (l.take (k + 1)).all (minQ l) = true := fun h => allQ_yes hlt' ha.out h
      have OV := hid (arg_at HA.out (qa_mem hlt')).2.2
      unfold minQ at NO YES
      have HN := hid NO
      have HY := hid YES
      clear NO YES ha
      have bw := cell_lt b0
      simp only at bw
      generalize qa l k = q at *
      obtain ⟨q1, q2, q3, q4, q5, q6, q7⟩ := q
      simp only at *
      cases h1 : fitB q6 q7 q4 q5
      · have E := hid (HN.out (by rw [h1]; rfl))
        clear HN HY
        go_wp2_with fail
        refine (fits_any q6 q7 q4 q5 _).mono ?_
        rintro e w1 ⟨rfl, j1⟩
        rw [h1]
        have hB1 := (hB.alloc hB.size (.cells #[.int .i64 q1, .int .i64 q2, .int .i64 q3, .int .i64 q4, .int .i64 q5, .int .i64 q6, .int .i64 q7] 53)).trans (j1.mono (by simp; have := hB.size; omega))
        go_wp2
        go_ret
        exact ⟨retb E.out.symm, hB1⟩
      · cases h2 : (decide (sumc l q1 ≤ q6) && decide (summ l q1 ≤ q7))
        · have E := hid (HN.out (by rw [Bool.and_assoc, h2, Bool.and_false]))
          have H1 := hid h1
          have H2 := hid h2
          clear HN HY h1 h2
          go_wp2_with fail
          refine (fits_any q6 q7 q4 q5 _).mono ?_
          rintro e w1 ⟨rfl, j1⟩
          rw [H1.out]
          have u0 := keepc j1 (a := ⟨w.heap.size, 0, none⟩) (v := .slice (some ⟨lb, off, none⟩) len cap) (by simp [go_sem, b0, bw])
          have u1 := keepc j1 (a := ⟨w.heap.size, 1, none⟩) (v := .map (some mb)) (by simp [go_sem, b1, bw])
          have m0 := keepc j1 (a := ⟨wr.heap.size, 0, none⟩) (v := .int .i64 q1) (by simp [go_sem])
          have m1 := keepc j1 (a := ⟨wr.heap.size, 1, none⟩) (v := .int .i64 q2) (by simp [go_sem])
          have m2 := keepc j1 (a := ⟨wr.heap.size, 2, none⟩) (v := .int .i64 q3) (by simp [go_sem])
          have m3 := keepc j1 (a := ⟨wr.heap.size, 3, none⟩) (v := .int .i64 q4) (by simp [go_sem])
          have m4 := keepc j1 (a := ⟨wr.heap.size, 4, none⟩) (v := .int .i64 q5) (by simp [go_sem])
          have m5 := keepc j1 (a := ⟨wr.heap.size, 5, none⟩) (v := .int .i64 q6) (by simp [go_sem])
          have m6 := keepc j1 (a := ⟨wr.heap.size, 6, none⟩) (v := .int .i64 q7) (by simp [go_sem])
          have hB1 := (hB.alloc hB.size (.cells #[.int .i64 q1, .int .i64 q2, .int .i64 q3, .int .i64 q4, .int .i64 q5, .int .i64 q6, .int .i64 q7] 53)).trans (j1.mono (by simp; have := hB.size; omega))
          clear b0 b1 c0 c1 c2 c3 c4 c5 c6
          go_wp2_with fail
          refine (covers_any lb off len cap mb l ⟨q1, q2, q3, q4, q5, q6, q7⟩ _ (HT.out.below hB1) HA.out OV.out).mono ?_
          rintro e w2 ⟨rfl, j2⟩
          simp only
          rw [H2.out]
          have hB2 := hB1.trans (j2.mono hB1.size)
          go_wp2
          go_ret
          exact ⟨retb E.out.symm, hB2⟩
        · have E := hid (HY.out (by rw [Bool.and_assoc, h1, h2]; rfl))
          have H1 := hid h1
          have H2 := hid h2
          clear HN HY h1 h2
          go_wp2_with fail
          refine (fits_any q6 q7 q4 q5 _).mono ?_
          rintro e w1 ⟨rfl, j1⟩
          rw [H1.out]
          have u0 := keepc j1 (a := ⟨w.heap.size, 0, none⟩) (v := .slice (some ⟨lb, off, none⟩) len cap) (by simp [go_sem, b0, bw])
          have u1 := keepc j1 (a := ⟨w.heap.size, 1, none⟩) (v := .map (some mb)) (by simp [go_sem, b1, bw])
          have m0 := keepc j1 (a := ⟨wr.heap.size, 0, none⟩) (v := .int .i64 q1) (by simp [go_sem])
          have m1 := keepc j1 (a := ⟨wr.heap.size, 1, none⟩) (v := .int .i64 q2) (by simp [go_sem])
          have m2 := keepc j1 (a := ⟨wr.heap.size, 2, none⟩) (v := .int .i64 q3) (by simp [go_sem])
          have m3 := keepc j1 (a := ⟨wr.heap.size, 3, none⟩) (v := .int .i64 q4) (by simp [go_sem])
          have m4 := keepc j1 (a := ⟨wr.heap.size, 4, none⟩) (v := .int .i64 q5) (by simp [go_sem])
          have m5 := keepc j1 (a := ⟨wr.heap.size, 5, none⟩) (v := .int .i64 q6) (by simp [go_sem])
          have m6 := keepc j1 (a := ⟨wr.heap.size, 6, none⟩) (v := .int .i64 q7) (by simp [go_sem])
          have hB1 := (hB.alloc hB.size (.cells #[.int .i64 q1, .int .i64 q2, .int .i64 q3, .int .i64 q4, .int .i64 q5, .int .i64 q6, .int .i64 q7] 53)).trans (j1.mono (by simp; have := hB.size; omega))
          clear b0 b1 c0 c1 c2 c3 c4 c5 c6
          go_wp2_with fail
          refine (covers_any lb off len cap mb l ⟨q1, q2, q3, q4, q5, q6, q7⟩ _ (HT.out.below hB1) HA.out OV.out).mono ?_
          rintro e w2 ⟨rfl, j2⟩
          simp only
          rw [H2.out]
          have v0 := keepc j2 u0
          have v1 := keepc j2 u1
          have hB2 := hB1.trans (j2.mono hB1.size)
          clear u0 u1
          go_wp2
          go_roundw
          case rel => exact ⟨k + 1, by omega, by go_num, E, ⟨v0, v1⟩, hB2⟩
          case measure => simp [intOf]; omega
    · have hall : Hid (minsB l = true) := by have h := ha.out; rw [List.take_of_length_le (show l.length ≤ k by rw [HL.out]; omega)] at h; exact h
      go_wp2
      go_ret
      exact ⟨retb hall.out.symm, hB⟩

end Go.Proofs.Ytdbkjcnanffibaa
