/-
  Contracts of strip: ReadInt, ReadBytes, and the document's GetWhole, GetText, at any place of any bytes.
-/
import Derived.Test.YtpkifcoichjnbaaSG
namespace Go.Proofs.Ytpkifcoichjnbaa
open Go.RowKit Go.Deep
set_option linter.unusedVariables false

theorem rd_next (l : List Int) (p : Int) (h : (rd l p).2.2 = 0) : 0 < l.length ∧ 0 ≤ p ∧ p < (rd l p).2.1 ∧ (rd l p).2.1 ≤ l.length := by
  unfold rd at *
  split at h
  · simp at h
  split at h
  · simp at h
  rw [if_neg (by assumption), if_neg (by assumption)]
  split at h
  · rw [if_pos (by assumption)]; simp only; omega
  rw [if_neg (by assumption)]
  split at h
  · simp at h
  rw [if_neg (by assumption)]
  split at h
  · simp at h
  rw [if_neg (by assumption)]
  split at h
  · simp at h
  · rw [if_neg (by assumption)]; simp only; omega

/-- What is read as a text of bytes: the bytes, the place, the error. -/
def rtB (l : List Int) (p : Int) : List Int := if (rd l p).2.2 ≠ 0 then [] else if 1048576 < (rd l p).1 then [] else if (l.length : Int) - (rd l p).2.1 < (rd l p).1 then [] else (l.drop (rd l p).2.1.toNat).take (rd l p).1.toNat
def rtP (l : List Int) (p : Int) : Int := if (rd l p).2.2 ≠ 0 then (rd l p).2.1 else if 1048576 < (rd l p).1 then p else if (l.length : Int) - (rd l p).2.1 < (rd l p).1 then l.length else (rd l p).2.1 + (rd l p).1
def rtE (l : List Int) (p : Int) : Int := if (rd l p).2.2 ≠ 0 then (rd l p).2.2 else if 1048576 < (rd l p).1 then 3 else if (l.length : Int) - (rd l p).2.1 < (rd l p).1 then 5 else 0

/-- The cells from a place on, so many. -/
theorem holds_mid {w : World} {b off len cap : Nat} {l : List Int} (h : HoldsB w (some ⟨b, off, none⟩) len cap l) (m c : Nat) (hk : m + c ≤ len) (a : Option Addr) (ha : ¬ cap = m → a = some ⟨b, off + m, none⟩) (hn : a ≠ none) : HoldsB w a c (cap - m) ((l.drop m).take c) := by
  obtain ⟨h1, h2, h3, h4, h5, h6, h7⟩ := h
  refine ⟨by simp [h1]; omega, by omega, by omega, by omega, (h5.drop m).take c, fun e => absurd e hn, fun hp => ?_⟩
  obtain ⟨b', off', e, hc⟩ := h7 (by omega)
  cases e
  refine ⟨b, off + m, ha (by omega), fun j hj => ?_⟩
  rw [Nat.add_assoc, hc (m + j) (by omega), List.getElem?_take_of_lt hj, List.getElem?_drop]

theorem holds_empty (w : World) (a : Addr) : HoldsB w (some a) 0 0 [] := ⟨rfl, by omega, by omega, by omega, BB.nil, fun e => by simp at e, fun h => absurd h (by omega)⟩
theorem own_nil (base : Nat) (w : World) : Own base w (.slice none 0 0) 0 [] := ⟨World.ownsRow_nil _ _ _ _, BB.nil⟩
theorem rets {v : Value} {k n : IntKind} {a b x y : Int} (h : x = a) (g : y = b) : Ending.returned (.tuple #[v, .int k a, .int n b]) = .returned (.tuple #[v, .int k x, .int n y]) := by cases h; cases g; rfl

end Go.Proofs.Ytpkifcoichjnbaa
