/-
  law09: a call of both groups; are they alike?
-/
import Derived.Test.YtdenhpclopjjgaaGS
namespace Go.Proofs.Ytdenhpclopjjgaa
open Go.RowKit Go.Deep Go.Maps
set_option linter.unusedVariables false
set_option linter.unusedSimpArgs false

set_option maxRecDepth 100000 in
set_option maxHeartbeats 8000000 in
theorem alike_any (gb r : Nat) (a : Option Addr) (len cap : Nat) (l : List Cl) (w : World) (h : Grp w gb r l) (hl : HoldsC w a len cap l) (hle : l.length ≤ 1024) :
    Calls Try.prog 12 #[gp gb, .slice a len cap] w fun e w' => e = .returned (.bool true) ∧ Below w.heap.size w w' := by
  have HH := hid hl
  have HL := hid hl.1
  have LA := hid (list_any gb r l w h hle)
  have hcap := hl.2.1
  rw [hl.1] at LA hle
  clear h hl
  have tn : ((len : Int) != (len : Int)) = false := by simp
  go_enter Try.func12, Try.ntmps12
  go_wp2_with fail
  refine LA.out.mono ?_
  rintro e w1 ⟨v1, rfl, o1, b1⟩
  obtain ⟨a1, c1, rfl⟩ := o1.form
  have K1 := hid (o1.holds Cl.cs_len)
  have H1 := hid (HH.out.below b1)
  have B1 := hid b1
  clear o1 b1
  go_wp2_with fail
  go_loopw [16] (fun v wr => ∃ k : Nat, k ≤ len ∧ v = .int .i64 (k : Int) ∧ Hid (Below w1.heap.size w1 wr)) (fun v _ => len - (intOf v).toNat)
  case atStart => exact ⟨0, by omega, rfl, Below.refl _ _⟩
  case round =>
    obtain ⟨k, hk, rfl, hB⟩ := hrel
    by_cases hlt : k < len
    · obtain ⟨b, off, rfl, _, R⟩ := H1.out.rowC (by omega)
      obtain ⟨b', off', rfl, _, R'⟩ := K1.out.rowC (by omega)
      obtain ⟨x0, x1, x2⟩ := R k hlt
      obtain ⟨y0, y1, y2⟩ := R' k hlt
      replace x0 := keepc hB.out x0
      replace x1 := keepc hB.out x1
      replace x2 := keepc hB.out x2
      replace y0 := keepc hB.out y0
      replace y1 := keepc hB.out y1
      replace y2 := keepc hB.out y2
      clear R R'
      have ka : (0 : Int) ≤ (k : Int) := by omega
      have kb : (k : Int) < (len : Int) := by omega
      generalize (ca l k).id = i0 at *
      generalize (ca l k).tk = i1 at *
      generalize (ca l k).ps = i2 at *
      have n0 : (i0 != i0) = false := by simp
      have n1 : (i1 != i1) = false := by simp
      have n2 : (i2 != i2) = false := by simp
      go_wp2_with fail
      go_quiet (fail)
      go_wp2
      go_roundw
      case rel => exact ⟨k + 1, by omega, by go_num, below_drewN hB.out _⟩
      case measure => simp [intOf]; omega
    · have B2 := hid (B1.out.trans (hB.out.mono B1.out.size))
      go_wp2
      go_ret
      exact ⟨rfl, B2.out⟩

end Go.Proofs.Ytdenhpclopjjgaa
