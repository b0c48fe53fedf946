/-
  The document's answer for queues: Room.
-/
import Derived.Test.YtdomimpcjkajiaaRO
namespace Go.Proofs.Ytdomimpcjkajiaa
open Go.RowKit Go.Deep Go.Maps Go.Shelf
set_option linter.unusedVariables false

theorem sumsE_zero {l : List Qu} {us : List Us} (h : sumsE l us = 0) : chkE l = 0 ∧ fitsB l us = true := by
  unfold sumsE at h
  split at h
  · rename_i h2; exact absurd h h2
  · rename_i h1
    split at h
    · rename_i h2; exact absurd h h2
    · split at h
      · cases h
      · rename_i h3
        refine ⟨Decidable.of_not_not h1, ?_⟩
        cases hh : fitsB l us
        · exact absurd hh h3
        · rfl
theorem fits_at {l : List Qu} {us : List Us} (h : fitsB l us = true) {i : Nat} (hi : i < l.length) : okv (vecAt l us i) = true := by
  unfold fitsB at h
  rw [List.all_eq_true] at h
  exact h i (List.mem_range.2 hi)
theorem va_vecs {l : List Qu} {us : List Us} {k i : Nat} (h : i < k) : va (vecsTo l us k) i = vecAt l us i := by
  unfold va vecsTo
  rw [List.getElem?_map, List.getElem?_range h]
  rfl
/-- A queue's fourth field. -/
theorem run_quota (a b c d e f g : Int) (w : World) : Sem.run Try.prog (Instr.field 38 (.agg #[.int .i64 a, .int .i64 b, .int .i64 c, .int .i64 d, .int .i64 e, .int .i64 f, .int .i64 g]) 3) w = .ok (.agg #[.int .i64 d, .int .i64 e]) w := by kernel_rfl

set_option maxRecDepth 100000 in
set_option maxHeartbeats 4000000 in
theorem rroom_sums (a : Option Addr) (len cap : Nat) (l : List Qu) (ub : Option Addr) (n uc : Nat) (us : List Us) (leaf mc mm : Int) (w : World) (h : HoldsQ w a len cap l) (hu : HoldsU w ub n uc us) (hE : sumsE l us ≠ 0) :
    Calls Try.prog 17 #[.slice a len cap, .slice ub n uc, .int .i64 leaf, .agg #[.int .i64 mc, .int .i64 mm]] w fun e w' => e = .returned (.int .i64 (sumsE l us)) ∧ Below w.heap.size w w' := by
  have HS := hid (rsums_any a len cap l ub n uc us (w.alloc (.cells #[.int .i64 mc, .int .i64 mm] 25)) (h.below (by repeat (first | exact Below.refl _ _ | assumption | refine Below.alloc ?_ (by simp <;> omega) _ | refine Below.setCell ?_ (by simp <;> omega) _ | refine Below.drew ?_ | refine below_drewN ?_ _))) (hu.below (by repeat (first | exact Below.refl _ _ | assumption | refine Below.alloc ?_ (by simp <;> omega) _ | refine Below.setCell ?_ (by simp <;> omega) _ | refine Below.drew ?_ | refine below_drewN ?_ _))))
  have HL := hid h.1
  have hcap0 := h.2.1
  have hcm := h.2.2.1
  have HH := hid (h.below (show Below w.heap.size w (w.alloc (.cells #[.int .i64 mc, .int .i64 mm] 25)) from (by repeat (first | exact Below.refl _ _ | assumption | refine Below.alloc ?_ (by simp <;> omega) _ | refine Below.setCell ?_ (by simp <;> omega) _ | refine Below.drew ?_ | refine below_drewN ?_ _))))
  have HW0 := hid (show Below w.heap.size w (w.alloc (.cells #[.int .i64 mc, .int .i64 mm] 25)) from (by repeat (first | exact Below.refl _ _ | assumption | refine Below.alloc ?_ (by simp <;> omega) _ | refine Below.setCell ?_ (by simp <;> omega) _ | refine Below.drew ?_ | refine below_drewN ?_ _)))
  clear h hu
  have t : (sumsE l us != 0) = true := by simpa using hE
  have ER : Hid (sumsR l us = []) := by unfold Hid sumsR; rw [if_neg hE]
  clear hE
  generalize sumsE l us = E at *
  go_enter Try.func17, Try.ntmps17
  go_wp2_with fail
  refine HS.out.mono ?_
  rintro e w1 ⟨v1, rfl, o1, b1⟩
  have B1 := hid b1
  obtain ⟨a1, c1, rfl⟩ := o1.form
  clear o1 b1
  rw [ER.out]
  go_wp2
  go_ret
  exact ⟨rfl, HW0.out.trans (B1.out.mono HW0.out.size)⟩

set_option maxRecDepth 100000 in
set_option maxHeartbeats 4000000 in
theorem rroom_none (a : Option Addr) (len cap : Nat) (l : List Qu) (ub : Option Addr) (n uc : Nat) (us : List Us) (leaf mc mm : Int) (w : World) (h : HoldsQ w a len cap l) (hu : HoldsU w ub n uc us) (hE : sumsE l us = 0) (h1 : hasQ l leaf = false) :
    Calls Try.prog 17 #[.slice a len cap, .slice ub n uc, .int .i64 leaf, .agg #[.int .i64 mc, .int .i64 mm]] w fun e w' => e = .returned (.int .i64 8) ∧ Below w.heap.size w w' := by
  have HS := hid (rsums_any a len cap l ub n uc us (w.alloc (.cells #[.int .i64 mc, .int .i64 mm] 25)) (h.below (by repeat (first | exact Below.refl _ _ | assumption | refine Below.alloc ?_ (by simp <;> omega) _ | refine Below.setCell ?_ (by simp <;> omega) _ | refine Below.drew ?_ | refine below_drewN ?_ _))) (hu.below (by repeat (first | exact Below.refl _ _ | assumption | refine Below.alloc ?_ (by simp <;> omega) _ | refine Below.setCell ?_ (by simp <;> omega) _ | refine Below.drew ?_ | refine below_drewN ?_ _))))
  have HL := hid h.1
  have hcap0 := h.2.1
  have hcm := h.2.2.1
  have HH := hid (h.below (show Below w.heap.size w (w.alloc (.cells #[.int .i64 mc, .int .i64 mm] 25)) from (by repeat (first | exact Below.refl _ _ | assumption | refine Below.alloc ?_ (by simp <;> omega) _ | refine Below.setCell ?_ (by simp <;> omega) _ | refine Below.drew ?_ | refine below_drewN ?_ _))))
  have HW0 := hid (show Below w.heap.size w (w.alloc (.cells #[.int .i64 mc, .int .i64 mm] 25)) from (by repeat (first | exact Below.refl _ _ | assumption | refine Below.alloc ?_ (by simp <;> omega) _ | refine Below.setCell ?_ (by simp <;> omega) _ | refine Below.drew ?_ | refine below_drewN ?_ _)))
  clear h hu
  have Z1 := hid h1
  clear h1
  have ER : Hid (sumsR l us = vecsTo l us l.length) := by unfold Hid sumsR; rw [if_pos hE]
  obtain ⟨hC, hFt⟩ := sumsE_zero hE
  have hG := chkE_ok.1 hC
  have hp : 0 < len := by have := hG.2.1.1; rw [HL.out] at this; exact this
  have hle : len ≤ 64 := by rw [← HL.out]; exact hG.1
  have FP := hid hG.2.1
  have FT := hid hFt
  have SE := hid hE
  obtain ⟨b, off, rfl, R⟩ := HH.out.row hp
  have HR := hid R
  clear hE hC hG hFt R
  go_enter Try.func17, Try.ntmps17
  go_wp2_with fail
  refine HS.out.mono ?_
  rintro e w1 ⟨v1, rfl, o1, b1⟩
  have B1 := hid b1
  rw [SE.out]
  rw [ER.out, vecsTo_len, HL.out] at o1
  obtain ⟨a1, c1, rfl⟩ := o1.form
  have P1 := hid (o1.holds encV_len)
  have RL : Hid ((sumsR l us).length = len) := by unfold Hid; rw [ER.out, vecsTo_len, HL.out]
  clear o1 b1
  go_wp2_with fail
  refine (rhas_any _ len cap l leaf w1 (HH.out.below B1.out)).mono ?_
  rintro e w2 ⟨rfl, b2⟩
  rw [Z1.out]
  have P2 := hid (P1.out.below b2)
  have B2 := hid (B1.out.trans (b2.mono B1.out.size))
  clear b2 P1 B1
  go_wp2
  go_ret
  exact ⟨rfl, HW0.out.trans (B2.out.mono HW0.out.size)⟩

set_option maxRecDepth 100000 in
set_option maxHeartbeats 4000000 in
theorem rroom_leaf (a : Option Addr) (len cap : Nat) (l : List Qu) (ub : Option Addr) (n uc : Nat) (us : List Us) (leaf mc mm : Int) (w : World) (h : HoldsQ w a len cap l) (hu : HoldsU w ub n uc us) (hE : sumsE l us = 0) (h1 : hasQ l leaf = true) (h2 : leafB l leaf = false) :
    Calls Try.prog 17 #[.slice a len cap, .slice ub n uc, .int .i64 leaf, .agg #[.int .i64 mc, .int .i64 mm]] w fun e w' => e = .returned (.int .i64 14) ∧ Below w.heap.size w w' := by
  have HS := hid (rsums_any a len cap l ub n uc us (w.alloc (.cells #[.int .i64 mc, .int .i64 mm] 25)) (h.below (by repeat (first | exact Below.refl _ _ | assumption | refine Below.alloc ?_ (by simp <;> omega) _ | refine Below.setCell ?_ (by simp <;> omega) _ | refine Below.drew ?_ | refine below_drewN ?_ _))) (hu.below (by repeat (first | exact Below.refl _ _ | assumption | refine Below.alloc ?_ (by simp <;> omega) _ | refine Below.setCell ?_ (by simp <;> omega) _ | refine Below.drew ?_ | refine below_drewN ?_ _))))
  have HL := hid h.1
  have hcap0 := h.2.1
  have hcm := h.2.2.1
  have HH := hid (h.below (show Below w.heap.size w (w.alloc (.cells #[.int .i64 mc, .int .i64 mm] 25)) from (by repeat (first | exact Below.refl _ _ | assumption | refine Below.alloc ?_ (by simp <;> omega) _ | refine Below.setCell ?_ (by simp <;> omega) _ | refine Below.drew ?_ | refine below_drewN ?_ _))))
  have HW0 := hid (show Below w.heap.size w (w.alloc (.cells #[.int .i64 mc, .int .i64 mm] 25)) from (by repeat (first | exact Below.refl _ _ | assumption | refine Below.alloc ?_ (by simp <;> omega) _ | refine Below.setCell ?_ (by simp <;> omega) _ | refine Below.drew ?_ | refine below_drewN ?_ _)))
  clear h hu
  have Z1 := hid h1
  have Z2 := hid h2
  clear h1 h2
  have ER : Hid (sumsR l us = vecsTo l us l.length) := by unfold Hid sumsR; rw [if_pos hE]
  obtain ⟨hC, hFt⟩ := sumsE_zero hE
  have hG := chkE_ok.1 hC
  have hp : 0 < len := by have := hG.2.1.1; rw [HL.out] at this; exact this
  have hle : len ≤ 64 := by rw [← HL.out]; exact hG.1
  have FP := hid hG.2.1
  have FT := hid hFt
  have SE := hid hE
  obtain ⟨b, off, rfl, R⟩ := HH.out.row hp
  have HR := hid R
  clear hE hC hG hFt R
  go_enter Try.func17, Try.ntmps17
  go_wp2_with fail
  refine HS.out.mono ?_
  rintro e w1 ⟨v1, rfl, o1, b1⟩
  have B1 := hid b1
  rw [SE.out]
  rw [ER.out, vecsTo_len, HL.out] at o1
  obtain ⟨a1, c1, rfl⟩ := o1.form
  have P1 := hid (o1.holds encV_len)
  have RL : Hid ((sumsR l us).length = len) := by unfold Hid; rw [ER.out, vecsTo_len, HL.out]
  clear o1 b1
  go_wp2_with fail
  refine (rhas_any _ len cap l leaf w1 (HH.out.below B1.out)).mono ?_
  rintro e w2 ⟨rfl, b2⟩
  rw [Z1.out]
  have P2 := hid (P1.out.below b2)
  have B2 := hid (B1.out.trans (b2.mono B1.out.size))
  clear b2 P1 B1
  go_wp2_with fail
  refine (rleaf_any b off len cap l leaf w2 (HH.out.below B2.out) hp hle).mono ?_
  rintro e w3 ⟨rfl, b3⟩
  rw [Z1.out, Z2.out, Bool.true_and]
  have P3 := hid (P2.out.below b3)
  have B3 := hid (B2.out.trans (b3.mono B2.out.size))
  clear b3 P2 B2
  go_wp2
  go_ret
  exact ⟨rfl, HW0.out.trans (B3.out.mono HW0.out.size)⟩

set_option maxRecDepth 100000 in
set_option maxHeartbeats 4000000 in
theorem rroom_arg (a : Option Addr) (len cap : Nat) (l : List Qu) (ub : Option Addr) (n uc : Nat) (us : List Us) (leaf mc mm : Int) (w : World) (h : HoldsQ w a len cap l) (hu : HoldsU w ub n uc us) (hE : sumsE l us = 0) (h1 : hasQ l leaf = true) (h2 : leafB l leaf = true) (h3 : okv (mc, mm) = false) :
    Calls Try.prog 17 #[.slice a len cap, .slice ub n uc, .int .i64 leaf, .agg #[.int .i64 mc, .int .i64 mm]] w fun e w' => e = .returned (.int .i64 1) ∧ Below w.heap.size w w' := by
  have HS := hid (rsums_any a len cap l ub n uc us (w.alloc (.cells #[.int .i64 mc, .int .i64 mm] 25)) (h.below (by repeat (first | exact Below.refl _ _ | assumption | refine Below.alloc ?_ (by simp <;> omega) _ | refine Below.setCell ?_ (by simp <;> omega) _ | refine Below.drew ?_ | refine below_drewN ?_ _))) (hu.below (by repeat (first | exact Below.refl _ _ | assumption | refine Below.alloc ?_ (by simp <;> omega) _ | refine Below.setCell ?_ (by simp <;> omega) _ | refine Below.drew ?_ | refine below_drewN ?_ _))))
  have HL := hid h.1
  have hcap0 := h.2.1
  have hcm := h.2.2.1
  have HH := hid (h.below (show Below w.heap.size w (w.alloc (.cells #[.int .i64 mc, .int .i64 mm] 25)) from (by repeat (first | exact Below.refl _ _ | assumption | refine Below.alloc ?_ (by simp <;> omega) _ | refine Below.setCell ?_ (by simp <;> omega) _ | refine Below.drew ?_ | refine below_drewN ?_ _))))
  have HW0 := hid (show Below w.heap.size w (w.alloc (.cells #[.int .i64 mc, .int .i64 mm] 25)) from (by repeat (first | exact Below.refl _ _ | assumption | refine Below.alloc ?_ (by simp <;> omega) _ | refine Below.setCell ?_ (by simp <;> omega) _ | refine Below.drew ?_ | refine below_drewN ?_ _)))
  clear h hu
  have Z1 := hid h1
  have Z2 := hid h2
  have Z3 := hid h3
  clear h1 h2 h3
  have ER : Hid (sumsR l us = vecsTo l us l.length) := by unfold Hid sumsR; rw [if_pos hE]
  obtain ⟨hC, hFt⟩ := sumsE_zero hE
  have hG := chkE_ok.1 hC
  have hp : 0 < len := by have := hG.2.1.1; rw [HL.out] at this; exact this
  have hle : len ≤ 64 := by rw [← HL.out]; exact hG.1
  have FP := hid hG.2.1
  have FT := hid hFt
  have SE := hid hE
  obtain ⟨b, off, rfl, R⟩ := HH.out.row hp
  have HR := hid R
  clear hE hC hG hFt R
  go_enter Try.func17, Try.ntmps17
  go_wp2_with fail
  refine HS.out.mono ?_
  rintro e w1 ⟨v1, rfl, o1, b1⟩
  have B1 := hid b1
  rw [SE.out]
  rw [ER.out, vecsTo_len, HL.out] at o1
  obtain ⟨a1, c1, rfl⟩ := o1.form
  have P1 := hid (o1.holds encV_len)
  have RL : Hid ((sumsR l us).length = len) := by unfold Hid; rw [ER.out, vecsTo_len, HL.out]
  clear o1 b1
  go_wp2_with fail
  refine (rhas_any _ len cap l leaf w1 (HH.out.below B1.out)).mono ?_
  rintro e w2 ⟨rfl, b2⟩
  rw [Z1.out]
  have P2 := hid (P1.out.below b2)
  have B2 := hid (B1.out.trans (b2.mono B1.out.size))
  clear b2 P1 B1
  go_wp2_with fail
  refine (rleaf_any b off len cap l leaf w2 (HH.out.below B2.out) hp hle).mono ?_
  rintro e w3 ⟨rfl, b3⟩
  rw [Z1.out, Z2.out, Bool.true_and]
  have P3 := hid (P2.out.below b3)
  have B3 := hid (B2.out.trans (b3.mono B2.out.size))
  clear b3 P2 B2
  have m0 := keepc B3.out (a := ⟨w.heap.size, 0, none⟩) (v := .int .i64 mc) (by simp [go_sem])
  have m1 := keepc B3.out (a := ⟨w.heap.size, 1, none⟩) (v := .int .i64 mm) (by simp [go_sem])
  go_wp2_with fail
  refine (good_any mc mm w3).mono ?_
  rintro e w4 ⟨rfl, b4⟩
  rw [Z3.out]
  have P4 := hid (P3.out.below b4)
  have B4 := hid (B3.out.trans (b4.mono B3.out.size))
  clear b4 P3 B3 m0 m1
  go_wp2
  go_ret
  exact ⟨rfl, HW0.out.trans (B4.out.mono HW0.out.size)⟩

/-- .. of a right use. -/
def pathE (l : List Qu) (us : List Us) (P : Nat) (mc mm : Int) : Int := if (pth l P).all (fitAt l us mc mm) = true then 0 else 11
theorem pathE_no {l : List Qu} {us : List Us} {P : Nat} {mc mm : Int} {i : Nat} (h : i ∈ pth l P) (e : fitAt l us mc mm i = false) : pathE l us P mc mm = 11 := by
  unfold pathE
  rw [if_neg]
  intro hh
  rw [List.all_eq_true] at hh
  have := hh i h
  rw [e] at this; cases this
theorem pathE_yes {l : List Qu} {us : List Us} {P : Nat} {mc mm : Int} (h : ∀ i ∈ pth l P, fitAt l us mc mm i = true) : pathE l us P mc mm = 0 := by
  unfold pathE
  rw [if_pos]
  rw [List.all_eq_true]
  exact h

end Go.Proofs.Ytdomimpcjkajiaa
