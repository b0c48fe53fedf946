/-
  The document's answer for queues: Check.
-/
import Derived.Test.YtdbkjcnanffibaaGreatQY
namespace Go.Proofs.YtdbkjcnanffibaaGreat
open Go.RowKit Go.Deep Go.Maps Go.Shelf
set_option linter.unusedVariables false

theorem form_none (a : Option Addr) (cap : Nat) (w : World) :
    Calls Tryz.prog 57 #[.slice a 0 cap] w fun e w' => e = .returned (.bool false) ∧ Below w.heap.size w w' := by
  go_enter Tryz.func57, Tryz.ntmps57
  go_wp2_with fail
  refine wp_loop_rounds 1 ?_
  rw [rounds_succ]
  go_wp2
  go_ret
  exact ⟨rfl, Below.refl _ _⟩
theorem form_any (a : Option Addr) (len cap : Nat) (l : List Qu) (w : World) (h : HoldsQ w a len cap l) (hm : len ≤ 64) :
    Calls Tryz.prog 57 #[.slice a len cap] w fun e w' => e = .returned (.bool (formB l)) ∧ Below w.heap.size w w' := by
  rcases Nat.eq_zero_or_pos len with rfl | hp
  · rw [formB_nil h.1]
    exact form_none a cap w
  · obtain ⟨b, off, rfl, _⟩ := h.row hp
    exact form_row b off len cap l w h hp hm

set_option maxRecDepth 100000 in
set_option maxHeartbeats 4000000 in
theorem rcheckq_any (a : Option Addr) (len cap : Nat) (l : List Qu) (w : World) (h : HoldsQ w a len cap l) :
    Calls Tryz.prog 35 #[.slice a len cap] w fun e w' => e = .returned (.int .i64 (chkE l)) ∧ Below w.heap.size w w' := by
  have HL := hid h.1
  have hcap := h.2.1
  have hcm := h.2.2.1
  have HH := hid h
  clear h
  by_cases h64 : 64 < len
  · have E := hid (chkE_long (l := l) (by rw [HL.out]; exact h64))
    have t : decide ((64 : Int) < (len : Int)) = true := by simp; omega
    go_enter Tryz.func35, Tryz.ntmps35
    go_wp2
    go_ret
    exact ⟨ret1 E.out.symm, Below.refl _ _⟩
  · have t : decide ((64 : Int) < (len : Int)) = false := by simp; omega
    have HL64 : Hid (¬ 64 < l.length) := by unfold Hid; rw [HL.out]; exact h64
    have F := hid (form_any a len cap l w HH.out (by omega))
    cases hf : formB l
    · have E := hid (chkE_form HL64.out hf)
      rw [hf] at F
      clear hf
      go_enter Tryz.func35, Tryz.ntmps35
      go_wp2_with fail
      refine F.out.mono ?_
      rintro e w1 ⟨rfl, b1⟩
      go_wp2
      go_ret
      exact ⟨ret1 E.out.symm, b1⟩
    · rw [hf] at F
      have HF := hid hf
      have hp : 0 < len := by have := (formB_iff.1 hf).1; rw [HL.out] at this; exact this
      obtain ⟨b, off, rfl, R⟩ := HH.out.row hp
      have HR := hid R
      clear hf R
      go_enter Tryz.func35, Tryz.ntmps35
      go_wp2_with fail
      refine F.out.mono ?_
      rintro e w0 ⟨rfl, b0⟩
      go_wp2_with fail
      go_loopw [15] (fun i wr => ∃ k : Nat, k ≤ len ∧ i = .int .i64 k ∧ Hid ((l.take k).all argQ = true) ∧ Below w.heap.size w wr) (fun i _ => len - (intOf i).toNat)
      case atStart => exact ⟨0, by omega, rfl, by simp [Hid], b0⟩
      case round =>
        obtain ⟨k, hk, rfl, ha, hB⟩ := hrel
        by_cases hlt : k < len
        · have hlt' : k < l.length := by rw [HL.out]; exact hlt
          obtain ⟨c0, c1, c2, c3, c4, c5, c6⟩ := (HR.out.below hB).2 k hlt'
          have NO : argQ (qa l k) = false → chkE l = 1 := fun h => chkE_arg HL64.out HF.out (allQ_no hlt' h)
          have YES : argQ (qa l k) = true → (l.take (k + 1)).all argQ = true := fun h => allQ_yes hlt' ha.out h
          unfold argQ at NO YES
          have HN := hid NO
          have HY := hid YES
          clear NO YES ha
          generalize qa l k = q at *
          obtain ⟨q1, q2, q3, q4, q5, q6, q7⟩ := q
          simp only at *
          by_cases g1 : q3 < 1
          · have t1 : decide (q3 < 1) = true := by simp; omega
            have E := hid (HN.out (by have : okw q3 = false := by { unfold okw; simp; omega }
                                      rw [this]; rfl))
            go_wp2
            go_ret
            exact ⟨ret1 E.out.symm, hB.alloc hB.size _⟩
          · have t1 : decide (q3 < 1) = false := by simp; omega
            by_cases g2 : 1048576 < q3
            · have t2 : decide (1048576 < q3) = true := by simp; omega
              have E := hid (HN.out (by have : okw q3 = false := by { unfold okw; simp; omega }
                                        rw [this]; rfl))
              go_wp2
              go_ret
              exact ⟨ret1 E.out.symm, hB.alloc hB.size _⟩
            · have t2 : decide (1048576 < q3) = false := by simp; omega
              have OW : okw q3 = true := by unfold okw; simp; omega
              cases h4 : okv (q4, q5)
              · have E := hid (HN.out (by rw [h4]; simp))
                have H4 := hid h4
                clear HN HY h4 OW
                go_wp2_with fail
                refine (good_any q4 q5 _).mono ?_
                rintro e w1 ⟨rfl, h1⟩
                rw [H4.out]
                have hB1 := (hB.alloc hB.size (.cells #[.int .i64 q1, .int .i64 q2, .int .i64 q3, .int .i64 q4, .int .i64 q5, .int .i64 q6, .int .i64 q7] 38)).trans (h1.mono (by simp; have := hB.size; omega))
                go_wp2
                go_ret
                exact ⟨ret1 E.out.symm, hB1⟩
              · cases h6 : okv (q6, q7)
                · have E := hid (HN.out (by rw [h6]; simp))
                  have H4 := hid h4
                  have H6 := hid h6
                  clear HN HY h4 h6 OW
                  go_wp2_with fail
                  refine (good_any q4 q5 _).mono ?_
                  rintro e w1 ⟨rfl, h1⟩
                  rw [H4.out]
                  have m5 := keepc h1 (a := ⟨wr.heap.size, 5, none⟩) (v := .int .i64 q6) (by simp [go_sem])
                  have m6 := keepc h1 (a := ⟨wr.heap.size, 6, none⟩) (v := .int .i64 q7) (by simp [go_sem])
                  have hB1 := (hB.alloc hB.size (.cells #[.int .i64 q1, .int .i64 q2, .int .i64 q3, .int .i64 q4, .int .i64 q5, .int .i64 q6, .int .i64 q7] 38)).trans (h1.mono (by simp; have := hB.size; omega))
                  go_wp2_with fail
                  refine (good_any q6 q7 _).mono ?_
                  rintro e w2 ⟨rfl, h2⟩
                  rw [H6.out]
                  have hB2 := hB1.trans (h2.mono hB1.size)
                  go_wp2
                  go_ret
                  exact ⟨ret1 E.out.symm, hB2⟩
                · have E := hid (HY.out (by rw [OW, h4, h6]; rfl))
                  have H4 := hid h4
                  have H6 := hid h6
                  clear HN HY h4 h6 OW
                  go_wp2_with fail
                  refine (good_any q4 q5 _).mono ?_
                  rintro e w1 ⟨rfl, h1⟩
                  rw [H4.out]
                  have m5 := keepc h1 (a := ⟨wr.heap.size, 5, none⟩) (v := .int .i64 q6) (by simp [go_sem])
                  have m6 := keepc h1 (a := ⟨wr.heap.size, 6, none⟩) (v := .int .i64 q7) (by simp [go_sem])
                  have hB1 := (hB.alloc hB.size (.cells #[.int .i64 q1, .int .i64 q2, .int .i64 q3, .int .i64 q4, .int .i64 q5, .int .i64 q6, .int .i64 q7] 38)).trans (h1.mono (by simp; have := hB.size; omega))
                  go_wp2_with fail
                  refine (good_any q6 q7 _).mono ?_
                  rintro e w2 ⟨rfl, h2⟩
                  rw [H6.out]
                  have hB2 := hB1.trans (h2.mono hB1.size)
                  go_wp2
                  go_roundw
                  case rel => exact ⟨k + 1, by omega, by go_num, E, hB2⟩
                  case measure => simp [intOf]; omega
        · have hall : argB l = true := by have h := ha.out; rw [List.take_of_length_le (show l.length ≤ k by rw [HL.out]; omega)] at h; exact h
          have M := hid (mins_row b off len cap l wr (HH.out.below hB) hp (by omega) hall)
          cases hm : minsB l
          · have E := hid (chkE_mins HL64.out HF.out hall hm)
            rw [hm] at M
            clear hm hall ha
            go_wp2_with fail
            refine M.out.mono ?_
            rintro e w1 ⟨rfl, h1⟩
            have hB1 := hB.trans (h1.mono hB.size)
            go_wp2
            go_ret
            exact ⟨ret1 E.out.symm, hB1⟩
          · have E := hid (chkE_good HL64.out HF.out hall hm)
            rw [hm] at M
            clear hm hall ha
            go_wp2_with fail
            refine M.out.mono ?_
            rintro e w1 ⟨rfl, h1⟩
            have hB1 := hB.trans (h1.mono hB.size)
            go_wp2
            go_ret
            exact ⟨ret1 E.out.symm, hB1⟩

end Go.Proofs.YtdbkjcnanffibaaGreat
