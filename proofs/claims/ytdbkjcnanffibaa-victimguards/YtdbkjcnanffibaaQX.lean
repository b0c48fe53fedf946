/-
  The document's answer for queues: the form.
-/
import Derived.Test.YtdbkjcnanffibaaQW
import Derived.Deep.RegionHeld3
import Derived.Deep.DeepCutAuto
import Derived.Deep.CutBlock
namespace Go.Proofs.Ytdbkjcnanffibaa
open Go.RowKit Go.Deep Go.Maps Go.Shelf
set_option linter.unusedVariables false
set_option linter.unusedSimpArgs false

theorem okAt_zero (l : List Qu) : okAt l 0 = (decide ((qa l 0).id = 0) && decide ((qa l 0).par = -1)) := by unfold okAt; rw [if_pos rfl]
theorem okAt_succ (l : List Qu) (k : Nat) : okAt l (k + 1) = (decide ((qa l k).id < (qa l (k + 1)).id) && decide (pl l (qa l (k + 1)).par < k + 1)) := by unfold okAt; rw [if_neg (by omega)]; rfl
theorem holds_take {w : World} {b off len cap k : Nat} {l : List Qu} (h : RowQ w b off l) (hl : l.length = len) (hk : k ≤ len) (hc : len ≤ cap) (hc2 : cap ≤ 9223372036854775807) : HoldsQ w (some ⟨b, off, none⟩) k cap (l.take k) := by
  have hlen : (l.take k).length = k := by simp; omega
  have hR : RowQ w b off (l.take k) := by
    refine ⟨h.1, fun j hj => ?_⟩
    have e : qa (l.take k) j = qa l j := by unfold qa; rw [List.getElem?_take, if_pos (by omega)]
    rw [e]
    exact h.2 j (by omega)
  have := hR.holds (cap := cap) (by omega) hc2
  rwa [hlen] at this
theorem plI_take {l : List Qu} {id : Int} {k : Nat} (hk : k ≤ l.length) : (decide (plI (l.take k) id < 0)) = !decide (pl l id < k) := by
  have hlen : (l.take k).length = k := by simp; omega
  unfold plI
  rw [hlen]
  by_cases h : pl l id < k
  · rw [if_pos (pl_take hk |>.2 h)]; simp [h]; try omega
  · rw [if_neg (fun h' => h ((pl_take hk).1 h'))]; simp [h]; try omega

end Go.Proofs.Ytdbkjcnanffibaa
