/-
  The document's answer for queues: Sum, Room.
-/
import Derived.Test.YtdbkjcnanffibaaRN
import Derived.Test.YtdbkjcnanffibaaVD
namespace Go.Proofs.Ytdbkjcnanffibaa
open Go.RowKit Go.Deep Go.Maps Go.Shelf
set_option linter.unusedVariables false

def va (vs : List (Int × Int)) (i : Nat) : Int × Int := vs[i]?.getD (0, 0)
theorem va_get {vs : List (Int × Int)} {i : Nat} (h : i < vs.length) : vs[i]? = some (va vs i) := by unfold va; rw [List.getElem?_eq_getElem h]; rfl
theorem HoldsE.rowV {w : World} {a : Option Addr} {len cap : Nat} {l : List (Int × Int)} (h : HoldsV w a len cap l) (hp : 0 < len) : ∃ b off, a = some ⟨b, off, none⟩ ∧ ∀ j, j < len → w.cell? ⟨b, off + j * 2, none⟩ = some (.int .i64 (va l j).1) ∧ w.cell? ⟨b, off + j * 2 + 1, none⟩ = some (.int .i64 (va l j).2) := by
  obtain ⟨h1, h2, h3, h4, h5⟩ := h
  obtain ⟨b, off, e, hlt, hc⟩ := h5 hp
  refine ⟨b, off, e, fun j hj => ?_⟩
  have hh := hc j _ (va_get (by omega))
  exact ⟨hh 0 _ rfl, hh 1 _ rfl⟩

/-- Is there room at a place? -/
def fitAt (l : List Qu) (us : List Us) (mc mm : Int) (i : Nat) : Bool := fitB ((vecAt l us i).1 + mc) ((vecAt l us i).2 + mm) (qa l i).qc (qa l i).qm
/-- What Room answers. -/
def roomE (l : List Qu) (us : List Us) (leaf mc mm : Int) : Int := if sumsE l us ≠ 0 then sumsE l us else if useE l ⟨leaf, mc, mm⟩ ≠ 0 then useE l ⟨leaf, mc, mm⟩ else if (pth l (pl l leaf)).all (fitAt l us mc mm) = true then 0 else 11

end Go.Proofs.Ytdbkjcnanffibaa
