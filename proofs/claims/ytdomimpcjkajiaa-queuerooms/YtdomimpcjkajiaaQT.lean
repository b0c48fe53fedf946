/-
  The statements' first calls.
-/
import Derived.Test.YtdomimpcjkajiaaQP
import Derived.Test.YtdomimpcjkajiaaQR
import Derived.Test.YtdomimpcjkajiaaQS
namespace Go.Proofs.Ytdomimpcjkajiaa
open Go.RowKit Go.Deep Go.Maps Go.Shelf
set_option linter.unusedVariables false

def twoL : List Qu := [⟨0, -1, 1, 10, 10, 0, 0⟩, ⟨1, 0, 2, 10, 10, 0, 0⟩]
def q3 : Qu := ⟨3, 1, 1, 5, 5, 0, 0⟩
theorem twoL_ok : ∀ q ∈ twoL, q.ok := by
  intro q hq
  simp [twoL] at hq
  rcases hq with rfl | rfl <;> (unfold Qu.ok I64; simp)
theorem q3_ok : q3.ok := by unfold q3 Qu.ok I64; simp
theorem two_chk : chkE twoL = 0 := by decide +kernel
theorem two_has3 : hasQ twoL q3.id = false := by decide +kernel
theorem two_has1 : hasQ twoL q3.par = true := by decide +kernel
theorem two_add : chkE (addM twoL q3) = 0 := by decide +kernel
theorem two_leaves : leavesR (addM twoL q3) = [3] := by decide +kernel

set_option maxRecDepth 100000 in
set_option maxHeartbeats 1000000 in
theorem two_any (w : World) : Calls Try.prog 33 #[] w fun e w' => e = .returned (.slice (some ⟨w.heap.size + 1, 0, none⟩) 2 2) ∧ HoldsQ w' (some ⟨w.heap.size + 1, 0, none⟩) 2 2 twoL ∧ Below w.heap.size w w' := by
  go_enter Try.func33, Try.ntmps33
  go_wp2
  go_ret
  refine ⟨rfl, ?_, (by repeat (first | exact Below.refl _ _ | assumption | refine Below.alloc ?_ (by simp <;> omega) _ | refine Below.setCell ?_ (by simp <;> omega) _ | refine Below.drew ?_ | refine below_drewN ?_ _))⟩
  have hR : RowQ ((w.alloc (.cells #[.int .i64 10, .int .i64 10] 25)).alloc (.cells #[.int .i64 0, .int .i64 (-1), .int .i64 1, .int .i64 10, .int .i64 10, .int .i64 0, .int .i64 0, .int .i64 1, .int .i64 0, .int .i64 2, .int .i64 10, .int .i64 10, .int .i64 0, .int .i64 0] 38)) (w.heap.size + 1) 0 twoL := by
    refine ⟨by simp, fun j hj => ?_⟩
    obtain rfl | rfl : j = 0 ∨ j = 1 := by simp [twoL] at hj; omega
    · unfold AtQ; simp [go_sem, qa, twoL]
    · unfold AtQ; simp [go_sem, qa, twoL]
  exact hR.holds (cap := 2) (by simp [twoL]) (by omega)

set_option maxRecDepth 100000 in
set_option maxHeartbeats 2000000 in
theorem awake_any (w : World) : Calls Try.prog 12 #[] w fun e w' => e = .returned (.bool true) ∧ Below w.heap.size w w' := by
  go_enter Try.func12, Try.ntmps12
  go_wp2_with fail
  refine (two_any w).mono ?_
  rintro e w1 ⟨rfl, h1, b1⟩
  have H1 := hid h1
  clear h1
  go_wp2_with fail
  refine (add_good _ 2 2 twoL q3 w1 H1.out twoL_ok q3_ok two_chk two_has3 (by decide) two_has1 two_add).mono ?_
  rintro e w2 ⟨⟨v2, rfl, n2⟩, b2⟩
  obtain ⟨g2, c2, rfl, hg2, h2⟩ := n2
  have H2 := hid h2
  have hB2 := b1.trans (b2.mono b1.size)
  clear h2 b2
  go_wp2_with fail
  refine (leaves_any _ 3 c2 (addM twoL q3) w2 H2.out (insQ_ok twoL_ok q3_ok)).mono ?_
  rintro e w3 ⟨v3, rfl, o3, b3⟩
  rw [two_leaves] at o3
  rw [two_add]
  obtain ⟨a3, c3, rfl⟩ := o3.form
  have H3 := hid (o3.holds encN_len)
  have hB3 := hB2.trans (b3.mono hB2.size)
  clear o3 b3
  have L1 : HoldsN (w3.alloc (.cells #[.int .i64 3] 3)) (some ⟨w3.heap.size, 0, none⟩) 1 1 [3] := by
    refine ⟨rfl, by omega, by omega, (fun e => by cases e), fun _ => ⟨w3.heap.size, 0, rfl, by simp, fun j x hx i v hv => ?_⟩⟩
    match j, hx with
    | 0, hx =>
      simp at hx
      subst hx
      match i, hv with
      | 0, hv => simp [encN] at hv; subst hv; simp [go_sem]
  have HL1 := hid L1
  clear L1
  go_wp2_with fail
  with_reducible refine (ints_any a3 (some ⟨w3.heap.size, 0, none⟩) 1 c3 1 [3] _ (H3.out.below ((Below.refl _ _).alloc (Nat.le_refl _) _)) HL1.out (by omega)).mono ?_
  rintro e w4 ⟨rfl, b4⟩
  have hB4 : Below w.heap.size w w4 := (hB3.alloc hB3.size _).trans (b4.mono (by have := hB3.size; simp; omega))
  clear b4
  go_wp2_with fail
  refine (two_any w4).mono ?_
  rintro e w5 ⟨rfl, h5, b5⟩
  have H5 := hid h5
  have hB5 := hB4.trans (b5.mono hB4.size)
  clear h5 b5
  go_wp2_with fail
  refine (check_q _ 2 2 twoL w5 H5.out twoL_ok).mono ?_
  rintro e w6 ⟨rfl, b6⟩
  rw [two_chk]
  have hB6 := hB5.trans (b6.mono hB5.size)
  go_wp2
  go_ret
  exact ⟨rfl, hB6⟩

end Go.Proofs.Ytdomimpcjkajiaa
