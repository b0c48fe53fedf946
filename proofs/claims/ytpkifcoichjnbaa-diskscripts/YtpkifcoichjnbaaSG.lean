/-
  Contracts of strip: Read, and the document's GetNum, at any place of any bytes.
-/
import Derived.Test.YtpkifcoichjnbaaSF
namespace Go.Proofs.Ytpkifcoichjnbaa
open Go.RowKit Go.Deep
set_option linter.unusedVariables false
theorem rd_bd (l : List Int) (p : Int) (h : BB l) : 0 ≤ (rd l p).1 ∧ (rd l p).1 ≤ 18446744073709551615 := by
  unfold rd
  have b := h.getD p.toNat
  split
  · simp
  split
  · simp
  split
  · simp only; omega
  split
  · simp
  split
  · simp
  split
  · simp
  · simp only
    have := beg_bd (l[p.toNat]?.getD 0 - 191).toNat (by omega)
    have := val_bd ((l.drop (p.toNat + 1)).take (l[p.toNat]?.getD 0 - 191).toNat) ((h.drop _).take _)
    omega
end Go.Proofs.Ytpkifcoichjnbaa
