/-
  Contracts of furlongref10: a count, a number up to another.
-/
import Derived.Test.YtkjglpgjflkmbaaCP
namespace Go.Proofs.Ytkjglpgjflkmbaa
open Go.RowKit Go.Deep
set_option linter.unusedVariables false
set_option linter.unusedSimpArgs false

theorem rd_zero (l : List Int) (p : Int) (h : (rd l p).2.2 ≠ 0) : (rd l p).1 = 0 := by
  unfold rd at *
  split
  · rfl
  split
  · rfl
  split
  · rename_i h1 h2 h3
    rw [if_neg h1, if_neg h2, if_pos h3] at h
    simp at h
  split
  · rfl
  split
  · rfl
  split
  · rfl
  · rename_i h1 h2 h3 h4 h5 h6
    rw [if_neg h1, if_neg h2, if_neg h3, if_neg h4, if_neg h5, if_neg h6] at h
    simp at h

set_option maxRecDepth 100000 in
set_option maxHeartbeats 4000000 in
theorem dupto_any (a : Option Addr) (n c : Nat) (l : List Int) (A E : Int) (most : Int) (w : World) (hl : HoldsB w a n c l) (hp : I64 A) (hm : 0 ≤ most) (hm2 : most ≤ 9223372036854775807) :
    Calls Try.prog 53 #[.agg #[.slice a n c, .int .i64 A, .int .i64 E], .int .u64 most] w fun e w' => e = .returned (.tuple #[.agg #[.slice a n c, .int .i64 (upT l A E most 4).2.1, .int .i64 (upT l A E most 4).2.2], .int .i64 (upT l A E most 4).1]) ∧ Below w.heap.size w w' := by
  by_cases hE : E = 0
  · subst hE
    have G := hid (fun W (H : HoldsB W a n c l) => getnum_any a n c l A W H hp)
    have HL := hid hl
    have bd := rd_bd l A hl.2.2.2.2.1
    have zr := rd_zero l A
    by_cases hF : (rd l A).2.2 = 0
    · by_cases hg : most < (rd l A).1
      · have T : Hid (upT l A 0 most 4 = (0, A, 4)) := by unfold Hid upT; rw [if_pos rfl, if_pos hg]
        clear hl hp zr
        generalize rd l A = R at *
        obtain ⟨X, A1, E1⟩ := R
        simp only at hF hg bd
        subst hF
        have hg1 : decide (most < X) = true := by simp; omega
        go_enter Try.func53, Try.ntmps53
        go_upto_region 1 with fail
        have B0 := ((Below.refl w.heap.size w).alloc (Nat.le_refl _) (.cells #[.slice a n c, .int .i64 A, .int .i64 0] 102)).alloc (by simp) (.cells #[.slice none 0 0, .int .i64 0, .int .i64 0] 102)
        have HW := hid (HL.out.below B0)
        go_wp2_with fail
        with_reducible refine (G.out _ HW.out).mono ?_
        rintro e W1 ⟨rfl, rfl⟩
        clear G HW
        go_wp2_with fail
        refine bodyPost_ret (v := .tuple #[.agg #[.slice a n c, .int .i64 A, .int .i64 4], .int .i64 0]) (by simp [results, Try.results53, go_sem]) rfl ⟨by rw [T.out], (by repeat (first | exact Below.refl _ _ | assumption | refine Below.alloc ?_ (by simp <;> omega) _ | refine Below.setCell ?_ (by simp <;> omega) _ | refine Below.drew ?_ | refine below_drewN ?_ _))⟩
      · have T : Hid (upT l A 0 most 4 = rd l A) := by unfold Hid upT; rw [if_pos rfl, if_neg hg]
        rw [T.out]
        clear hl hp zr T
        generalize rd l A = R at *
        obtain ⟨X, A1, E1⟩ := R
        simp only at hF hg bd
        subst hF
        have hg1 : decide (most < X) = false := by simp; omega
        have hx1 : X ≤ 9223372036854775807 := by omega
        go_enter Try.func53, Try.ntmps53
        go_upto_region 1 with fail
        have B0 := ((Below.refl w.heap.size w).alloc (Nat.le_refl _) (.cells #[.slice a n c, .int .i64 A, .int .i64 0] 102)).alloc (by simp) (.cells #[.slice none 0 0, .int .i64 0, .int .i64 0] 102)
        have HW := hid (HL.out.below B0)
        go_wp2_with fail
        with_reducible refine (G.out _ HW.out).mono ?_
        rintro e W1 ⟨rfl, rfl⟩
        clear G HW
        have bd0 := bd.1
        go_wp2_with fail
        refine bodyPost_ret (v := .tuple #[.agg #[.slice a n c, .int .i64 A1, .int .i64 0], .int .i64 X]) (by simp [results, Try.results53, go_sem]) rfl ⟨rfl, (by repeat (first | exact Below.refl _ _ | assumption | refine Below.alloc ?_ (by simp <;> omega) _ | refine Below.setCell ?_ (by simp <;> omega) _ | refine Below.drew ?_ | refine below_drewN ?_ _))⟩
    · have hx0 := zr hF
      have hg : ¬ most < (rd l A).1 := by omega
      have T : Hid (upT l A 0 most 4 = rd l A) := by unfold Hid upT; rw [if_pos rfl, if_neg hg]
      rw [T.out]
      clear hl hp zr T
      generalize rd l A = R at *
      obtain ⟨X, A1, E1⟩ := R
      simp only at hF hg bd hx0
      subst hx0
      go_enter Try.func53, Try.ntmps53
      go_upto_region 1 with fail
      have B0 := ((Below.refl w.heap.size w).alloc (Nat.le_refl _) (.cells #[.slice a n c, .int .i64 A, .int .i64 0] 102)).alloc (by simp) (.cells #[.slice none 0 0, .int .i64 0, .int .i64 0] 102)
      have HW := hid (HL.out.below B0)
      go_wp2_with fail
      with_reducible refine (G.out _ HW.out).mono ?_
      rintro e W1 ⟨rfl, rfl⟩
      clear G HW
      go_wp2_with fail
      refine bodyPost_ret (v := .tuple #[.agg #[.slice a n c, .int .i64 A1, .int .i64 E1], .int .i64 0]) (by simp [results, Try.results53, go_sem]) rfl ⟨rfl, (by repeat (first | exact Below.refl _ _ | assumption | refine Below.alloc ?_ (by simp <;> omega) _ | refine Below.setCell ?_ (by simp <;> omega) _ | refine Below.drew ?_ | refine below_drewN ?_ _))⟩
  · have T : Hid (upT l A E most 4 = (0, A, E)) := by unfold Hid upT; rw [if_neg hE]
    clear hl hp
    go_enter Try.func53, Try.ntmps53
    go_wp2_with fail
    refine bodyPost_ret (v := .tuple #[.agg #[.slice a n c, .int .i64 A, .int .i64 E], .int .i64 0]) (by simp [results, Try.results53, go_sem]) rfl ⟨by rw [T.out], (by repeat (first | exact Below.refl _ _ | assumption | refine Below.alloc ?_ (by simp <;> omega) _ | refine Below.setCell ?_ (by simp <;> omega) _ | refine Below.drew ?_ | refine below_drewN ?_ _))⟩

set_option maxRecDepth 100000 in
set_option maxHeartbeats 4000000 in
theorem dtotal_any (a : Option Addr) (n c : Nat) (l : List Int) (A E : Int) (w : World) (hl : HoldsB w a n c l) (hp : I64 A) :
    Calls Try.prog 65 #[.agg #[.slice a n c, .int .i64 A, .int .i64 E]] w fun e w' => e = .returned (.tuple #[.agg #[.slice a n c, .int .i64 (upT l A E 1024 3).2.1, .int .i64 (upT l A E 1024 3).2.2], .int .i64 (upT l A E 1024 3).1]) ∧ Below w.heap.size w w' := by
  by_cases hE : E = 0
  · subst hE
    have G := hid (fun W (H : HoldsB W a n c l) => getnum_any a n c l A W H hp)
    have HL := hid hl
    have bd := rd_bd l A hl.2.2.2.2.1
    have zr := rd_zero l A
    by_cases hF : (rd l A).2.2 = 0
    · by_cases hg : 1024 < (rd l A).1
      · have T : Hid (upT l A 0 1024 3 = (0, A, 3)) := by unfold Hid upT; rw [if_pos rfl, if_pos hg]
        clear hl hp zr
        generalize rd l A = R at *
        obtain ⟨X, A1, E1⟩ := R
        simp only at hF hg bd
        subst hF
        have hg1 : decide (1024 < X) = true := by simp; omega
        go_enter Try.func65, Try.ntmps65
        go_upto_region 1 with fail
        have B0 := ((Below.refl w.heap.size w).alloc (Nat.le_refl _) (.cells #[.slice a n c, .int .i64 A, .int .i64 0] 102)).alloc (by simp) (.cells #[.slice none 0 0, .int .i64 0, .int .i64 0] 102)
        have HW := hid (HL.out.below B0)
        go_wp2_with fail
        with_reducible refine (G.out _ HW.out).mono ?_
        rintro e W1 ⟨rfl, rfl⟩
        clear G HW
        go_wp2_with fail
        refine bodyPost_ret (v := .tuple #[.agg #[.slice a n c, .int .i64 A, .int .i64 3], .int .i64 0]) (by simp [results, Try.results65, go_sem]) rfl ⟨by rw [T.out], (by repeat (first | exact Below.refl _ _ | assumption | refine Below.alloc ?_ (by simp <;> omega) _ | refine Below.setCell ?_ (by simp <;> omega) _ | refine Below.drew ?_ | refine below_drewN ?_ _))⟩
      · have T : Hid (upT l A 0 1024 3 = rd l A) := by unfold Hid upT; rw [if_pos rfl, if_neg hg]
        rw [T.out]
        clear hl hp zr T
        generalize rd l A = R at *
        obtain ⟨X, A1, E1⟩ := R
        simp only at hF hg bd
        subst hF
        have hg1 : decide (1024 < X) = false := by simp; omega
        have hx1 : X ≤ 9223372036854775807 := by omega
        go_enter Try.func65, Try.ntmps65
        go_upto_region 1 with fail
        have B0 := ((Below.refl w.heap.size w).alloc (Nat.le_refl _) (.cells #[.slice a n c, .int .i64 A, .int .i64 0] 102)).alloc (by simp) (.cells #[.slice none 0 0, .int .i64 0, .int .i64 0] 102)
        have HW := hid (HL.out.below B0)
        go_wp2_with fail
        with_reducible refine (G.out _ HW.out).mono ?_
        rintro e W1 ⟨rfl, rfl⟩
        clear G HW
        have bd0 := bd.1
        go_wp2_with fail
        refine bodyPost_ret (v := .tuple #[.agg #[.slice a n c, .int .i64 A1, .int .i64 0], .int .i64 X]) (by simp [results, Try.results65, go_sem]) rfl ⟨rfl, (by repeat (first | exact Below.refl _ _ | assumption | refine Below.alloc ?_ (by simp <;> omega) _ | refine Below.setCell ?_ (by simp <;> omega) _ | refine Below.drew ?_ | refine below_drewN ?_ _))⟩
    · have hx0 := zr hF
      have hg : ¬ 1024 < (rd l A).1 := by omega
      have T : Hid (upT l A 0 1024 3 = rd l A) := by unfold Hid upT; rw [if_pos rfl, if_neg hg]
      rw [T.out]
      clear hl hp zr T
      generalize rd l A = R at *
      obtain ⟨X, A1, E1⟩ := R
      simp only at hF hg bd hx0
      subst hx0
      go_enter Try.func65, Try.ntmps65
      go_upto_region 1 with fail
      have B0 := ((Below.refl w.heap.size w).alloc (Nat.le_refl _) (.cells #[.slice a n c, .int .i64 A, .int .i64 0] 102)).alloc (by simp) (.cells #[.slice none 0 0, .int .i64 0, .int .i64 0] 102)
      have HW := hid (HL.out.below B0)
      go_wp2_with fail
      with_reducible refine (G.out _ HW.out).mono ?_
      rintro e W1 ⟨rfl, rfl⟩
      clear G HW
      go_wp2_with fail
      refine bodyPost_ret (v := .tuple #[.agg #[.slice a n c, .int .i64 A1, .int .i64 E1], .int .i64 0]) (by simp [results, Try.results65, go_sem]) rfl ⟨rfl, (by repeat (first | exact Below.refl _ _ | assumption | refine Below.alloc ?_ (by simp <;> omega) _ | refine Below.setCell ?_ (by simp <;> omega) _ | refine Below.drew ?_ | refine below_drewN ?_ _))⟩
  · have T : Hid (upT l A E 1024 3 = (0, A, E)) := by unfold Hid upT; rw [if_neg hE]
    clear hl hp
    go_enter Try.func65, Try.ntmps65
    go_wp2_with fail
    refine bodyPost_ret (v := .tuple #[.agg #[.slice a n c, .int .i64 A, .int .i64 E], .int .i64 0]) (by simp [results, Try.results65, go_sem]) rfl ⟨by rw [T.out], (by repeat (first | exact Below.refl _ _ | assumption | refine Below.alloc ?_ (by simp <;> omega) _ | refine Below.setCell ?_ (by simp <;> omega) _ | refine Below.drew ?_ | refine below_drewN ?_ _))⟩
end Go.Proofs.Ytkjglpgjflkmbaa
