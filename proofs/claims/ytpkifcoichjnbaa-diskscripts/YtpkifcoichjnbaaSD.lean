/-
  Contracts of strip: Lay, LayInt, LayBytes; the document's Num, Whole, Text, After; lists of bytes compared.
-/
import Derived.Test.YtpkifcoichjnbaaSC
namespace Go.Proofs.Ytpkifcoichjnbaa
open Go.RowKit Go.Deep
set_option linter.unusedVariables false
set_option maxHeartbeats 1000000 in
theorem twin_any (a : Option Addr) (len cap : Nat) (l : List Int) (w : World) (h : HoldsB w a len cap l) (hm : len ≤ 140737488355328) :
    Calls Try.prog 21 #[.slice a len cap] w fun e w' => ∃ v, e = .returned v ∧ Own w.heap.size w' v len l ∧ Below w.heap.size w w' := by
  have H := hid h
  clear h
  have B0 : Below w.heap.size w (w.alloc (.cells #[] 5)) := (by repeat (first | exact Below.refl _ _ | assumption | refine Below.alloc ?_ (by simp <;> omega) _ | refine Below.setCell ?_ (by simp <;> omega) _ | refine Below.drew ?_ | refine below_drewN ?_ _))
  go_enter Try.func21, Try.ntmps21
  go_wp2_with (at_builtin; refine cat_own _ rfl (.tmp 3) (.tmp 4) rfl w.heap.size 0 _ [] rfl (own_lit w) (by simp) a len cap l rfl (H.out.below B0) (by omega) ?_)
  intro v1 w1 h1 b1
  have b1' := B0.trans b1
  clear b1
  go_wp2
  go_ret
  exact ⟨v1, rfl, h1, b1'⟩

end Go.Proofs.Ytpkifcoichjnbaa
