/-
  Contracts of queue: checkUse; sums of uses, as lists; the document's Under.
-/
import Derived.Test.YtdbkjcnanffibaaQV
import Derived.Test.YtdbkjcnanffibaaQE
import Derived.Test.YtdbkjcnanffibaaQG
import Derived.Test.YtdbkjcnanffibaaRC
namespace Go.Proofs.Ytdbkjcnanffibaa
open Go.RowKit Go.Deep Go.Maps Go.Shelf
set_option linter.unusedVariables false

/-- A use's value. -/
abbrev uv (u : Us) : Value := .agg #[.int .i64 u.qu, .int .i64 u.uc, .int .i64 u.um]
/-- The error of a use. -/
def useE (l : List Qu) (u : Us) : Int := if hasQ l u.qu = false then 8 else if leafB l u.qu = false then 14 else chk u.uc u.um

set_option maxRecDepth 100000 in
set_option maxHeartbeats 2000000 in
theorem checkUse_any (lb off len cap mb : Nat) (l : List Qu) (u : Us) (w : World) (hT : Tree w lb off len cap mb l) (hu : I64 u.qu) :
    Calls Try.prog 45 #[tv lb off len cap mb, uv u] w fun e w' => e = .returned (.int .i64 (useE l u)) ∧ Below w.heap.size w w' := by
  obtain ⟨u1, u2, u3⟩ := u
  simp only at hu
  have HU := hid hu
  have T0 := hid (hT.below (show Below w.heap.size w ((w.alloc (.cells #[.slice (some ⟨lb, off, none⟩) len cap, .map (some mb)] 73)).alloc (.cells #[.int .i64 u1, .int .i64 u2, .int .i64 u3] 45)) from (by repeat (first | exact Below.refl _ _ | assumption | refine Below.alloc ?_ (by simp <;> omega) _ | refine Below.setCell ?_ (by simp <;> omega) _ | refine Below.drew ?_ | refine below_drewN ?_ _))))
  have HB0 := hid (show Below w.heap.size w ((w.alloc (.cells #[.slice (some ⟨lb, off, none⟩) len cap, .map (some mb)] 73)).alloc (.cells #[.int .i64 u1, .int .i64 u2, .int .i64 u3] 45)) from (by repeat (first | exact Below.refl _ _ | assumption | refine Below.alloc ?_ (by simp <;> omega) _ | refine Below.setCell ?_ (by simp <;> omega) _ | refine Below.drew ?_ | refine below_drewN ?_ _)))
  clear hT hu
  cases hX : hasQ l u1
  · have E : Hid (useE l ⟨u1, u2, u3⟩ = 8) := by unfold Hid useE; rw [if_pos hX]
    have HX := hid hX
    clear hX
    go_enter Try.func45, Try.ntmps45
    go_wp2_with fail
    refine (has_any lb off len cap mb l u1 _ T0.out HU.out).mono ?_
    rintro e w1 ⟨rfl, b1⟩
    rw [HX.out]
    have B1 := HB0.out.trans (b1.mono HB0.out.size)
    go_wp2
    go_ret
    exact ⟨ret1 E.out.symm, B1⟩
  · have HX := hid hX
    cases hF : leafB l u1
    · have E : Hid (useE l ⟨u1, u2, u3⟩ = 14) := by unfold Hid useE; rw [if_neg (by rw [hX]; decide), if_pos hF]
      have HF := hid hF
      clear hX hF
      go_enter Try.func45, Try.ntmps45
      go_wp2_with fail
      refine (has_any lb off len cap mb l u1 _ T0.out HU.out).mono ?_
      rintro e w1 ⟨rfl, b1⟩
      rw [HX.out]
      have c0 := keepc b1 (a := ⟨w.heap.size, 0, none⟩) (v := .slice (some ⟨lb, off, none⟩) len cap) (by simp [go_sem])
      have c1 := keepc b1 (a := ⟨w.heap.size, 1, none⟩) (v := .map (some mb)) (by simp [go_sem])
      have d0 := keepc b1 (a := ⟨w.heap.size + 1, 0, none⟩) (v := .int .i64 u1) (by simp [go_sem])
      have T1 := hid (T0.out.below b1)
      have B1 := HB0.out.trans (b1.mono HB0.out.size)
      clear b1
      go_wp2_with fail
      refine (isLeaf_any lb off len cap mb l u1 w1 T1.out).mono ?_
      rintro e w2 ⟨rfl, b2⟩
      rw [HF.out]
      have B2 := B1.trans (b2.mono B1.size)
      go_wp2
      go_ret
      exact ⟨ret1 E.out.symm, B2⟩
    · have E : Hid (useE l ⟨u1, u2, u3⟩ = chk u2 u3) := by unfold Hid useE; rw [if_neg (by rw [hX]; decide), if_neg (by rw [hF]; decide)]
      have HF := hid hF
      clear hX hF
      go_enter Try.func45, Try.ntmps45
      go_wp2_with fail
      refine (has_any lb off len cap mb l u1 _ T0.out HU.out).mono ?_
      rintro e w1 ⟨rfl, b1⟩
      rw [HX.out]
      have c0 := keepc b1 (a := ⟨w.heap.size, 0, none⟩) (v := .slice (some ⟨lb, off, none⟩) len cap) (by simp [go_sem])
      have c1 := keepc b1 (a := ⟨w.heap.size, 1, none⟩) (v := .map (some mb)) (by simp [go_sem])
      have d0 := keepc b1 (a := ⟨w.heap.size + 1, 0, none⟩) (v := .int .i64 u1) (by simp [go_sem])
      have d1 := keepc b1 (a := ⟨w.heap.size + 1, 1, none⟩) (v := .int .i64 u2) (by simp [go_sem])
      have d2 := keepc b1 (a := ⟨w.heap.size + 1, 2, none⟩) (v := .int .i64 u3) (by simp [go_sem])
      have T1 := hid (T0.out.below b1)
      have B1 := HB0.out.trans (b1.mono HB0.out.size)
      clear b1
      go_wp2_with fail
      refine (isLeaf_any lb off len cap mb l u1 w1 T1.out).mono ?_
      rintro e w2 ⟨rfl, b2⟩
      rw [HF.out]
      have B2 := B1.trans (b2.mono B1.size)
      have e1 := keepc b2 d1
      have e2 := keepc b2 d2
      clear b2 d0 d1 d2 c0 c1
      go_wp2_with fail
      refine (check_any u2 u3 w2).mono ?_
      rintro e w3 ⟨rfl, b3⟩
      have B3 := B2.trans (b3.mono B2.size)
      go_wp2
      go_ret
      exact ⟨ret1 E.out.symm, B3⟩

/-- What those of the uses that a place's path goes through use together. -/
def sumU (f : Us → Int) (l : List Qu) (i : Nat) : List Us → Int
  | [] => 0
  | u :: r => (if i ∈ pth l (pl l u.qu) then f u else 0) + sumU f l i r
theorem sumU_snoc (f : Us → Int) (l : List Qu) (i : Nat) (r : List Us) (u : Us) : sumU f l i (r ++ [u]) = sumU f l i r + (if i ∈ pth l (pl l u.qu) then f u else 0) := by
  induction r with
  | nil => simp [sumU]
  | cons x r ih => simp only [List.cons_append, sumU, ih]; omega
theorem sumU_nonneg (f : Us → Int) (l : List Qu) (i : Nat) : ∀ r : List Us, (∀ u ∈ r, 0 ≤ f u) → 0 ≤ sumU f l i r := by
  intro r h
  induction r with
  | nil => exact Int.le_refl _
  | cons x r ih =>
    have h1 := ih (fun u hu => h u (List.mem_cons_of_mem _ hu))
    have h2 := h x (List.mem_cons_self ..)
    simp only [sumU]
    split <;> omega

/-- Is a queue below another one? -/
def underB (l : List Qu) (i : Nat) (id : Int) : Bool := decide (i ∈ pth l (pl l id))
end Go.Proofs.Ytdbkjcnanffibaa
