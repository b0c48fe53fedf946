/-
  Contracts of strip: Mend.
-/
import Derived.Test.YtpkifcoichjnbaaSN
import Derived.Deep.DeepCutAuto
import Derived.Deep.CutBlock
namespace Go.Proofs.Ytpkifcoichjnbaa
open Go.RowKit Go.Deep
set_option linter.unusedVariables false

/-- What stands behind the two weights. -/
def TwoA (w wx : World) (base g m : Nat) (p : List Int) (x y z t : Int) (v u : Value) : Prop := ∃ P R : Nat, v = .pointer (some ⟨P, 0, none⟩) ∧ u = .pointer (some ⟨R, 0, none⟩) ∧
  (wx.cell? ⟨P, 0, none⟩ = some (.int .i64 x) ∧ wx.cell? ⟨P, 1, none⟩ = some (.int .i64 y)) ∧ (wx.cell? ⟨R, 0, none⟩ = some (.int .i64 z) ∧ wx.cell? ⟨R, 1, none⟩ = some (.int .i64 t)) ∧ Row base wx g m m p ∧ Below base w wx

/-- What is mended: of m bytes and four more; of all. -/
def gapU (L : List Int) (m : Nat) : Int := (L[m]?.getD 0 * 256 + L[m + 1]?.getD 0 - P1 (L.take m) + 65521) % 65521
def gapV (L : List Int) (m : Nat) : Int := (L[m + 2]?.getD 0 * 256 + L[m + 3]?.getD 0 - P2 (L.take m) + 65521) % 65521
def mdM (L : List Int) (m : Nat) : List Int × Int × Int :=
  if P1 (L.take m) = L[m]?.getD 0 * 256 + L[m + 1]?.getD 0 ∧ P2 (L.take m) = L[m + 2]?.getD 0 * 256 + L[m + 3]?.getD 0 then (L.take m, -1, 0)
  else if P2 (L.take m) = L[m + 2]?.getD 0 * 256 + L[m + 3]?.getD 0 then (L.take m, (m : Int), 0)
  else if P1 (L.take m) = L[m]?.getD 0 * 256 + L[m + 1]?.getD 0 then (L.take m, (m : Int) + 2, 0)
  else if rpO (rp (L.take m) (gapU L m) (gapV L m)) = true then (rpL (L.take m) (rp (L.take m) (gapU L m) (gapV L m)), rpI (rp (L.take m) (gapU L m) (gapV L m)), 0) else ([], 0, 6)
def md (L : List Int) : List Int × Int × Int := if L.length < 4 then ([], 0, 5) else if 60004 < L.length then ([], 0, 3) else mdM L (L.length - 4)

theorem retsE {v : Value} {k n : IntKind} {a b : Int} {R : List Int × Int × Int} {l : List Int} (h : R = (l, a, b)) : Ending.returned (.tuple #[v, .int k a, .int n b]) = .returned (.tuple #[v, .int k R.2.1, .int n R.2.2]) := by rw [h]

end Go.Proofs.Ytpkifcoichjnbaa
