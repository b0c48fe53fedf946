/-
  Contracts of the library at lists of queues: Clone, Insert.
-/
import Derived.Test.YtdbkjcnanffibaaGreatQB
import Derived.Test.YtdbkjcnanffibaaGreatHC
import Derived.Lib.AppendZerosOnto
import Derived.Lib.Overlaps
import Derived.Laws.IdiomCopy
import Derived.Laws.Externs
import Derived.Laws.NewBlocks
import Derived.Deep.RegionWith
namespace Go.Proofs.YtdbkjcnanffibaaGreat
open Go.RowKit Go.Deep Go.Maps
set_option linter.unusedVariables false

theorem infoQ : (Tryz.prog.info? 38).map (fun i => (i.zero, i.size, i.bytes)) = some (some (.agg #[.int .i64 0, .int .i64 0, .int .i64 0, .int .i64 0, .int .i64 0, .int .i64 0, .int .i64 0]), 7, 56) := by kernel_rfl
theorem sizeQ : (Tryz.prog.info? 38).map (·.size) = some 7 := by kernel_rfl
theorem Qu.one (x : Qu) : ∀ u ∈ x.cs, u.oneCell' = true := by
  intro u hu
  simp [Qu.cs] at hu
  rcases hu with rfl | rfl | rfl | rfl | rfl | rfl | rfl <;> rfl
abbrev OwnQ (base : Nat) (w : World) (v : Value) (n : Nat) (l : List Qu) : Prop := OwnE 38 7 Qu.cs base w v n l

theorem run_eql_nil (a : Addr) (n c : Nat) (w : World) : Sem.run Tryz.prog (binOp BinOp.eql 22 (.slice (some a) n c) (.slice none 0 0)) w = .ok (.bool false) w := by kernel_rfl

/-- New memory: a row of queues from block 'base' on. -/
def NewQ (base : Nat) (w : World) (v : Value) (n : Nat) (l : List Qu) : Prop := ∃ g cap, v = .slice (some ⟨g, 0, none⟩) n cap ∧ base ≤ g ∧ HoldsQ w (some ⟨g, 0, none⟩) n cap l
theorem OwnE.newQ {base n : Nat} {w : World} {v : Value} {l : List Qu} (h : OwnQ base w v n l) (hn : 0 < n) : NewQ base w v n l := by
  obtain ⟨a, cap, rfl⟩ := h.form
  have hh := h.holds Qu.cs_len
  rcases h.2.2 with ⟨_, h0⟩ | ⟨g, cap', cur, hv, hg, _⟩
  · omega
  · simp at hv
    obtain ⟨rfl, rfl⟩ := hv
    exact ⟨g, cap, rfl, hg, hh⟩

section
variable {base g n cap vb i : Nat} {l : List Qu} {q : Qu} {w : World}

/-- The cells of the call's own row. -/
theorem own_cells (h : OwnQ base w (.slice (some ⟨g, 0, none⟩) n cap) n l) : (∃ k, w.shape? g = some (38, k) ∧ k = cap * 7) ∧ (∀ j, j < cap * 7 → (w.cell? ⟨g, j, none⟩).isSome = true) ∧ (∀ j, w.frozen? ⟨g, j, none⟩ = false) ∧ (∀ j v, (l.flatMap Qu.cs)[j]? = some v → w.cell? ⟨g, j, none⟩ = some v) ∧ n ≤ cap ∧ cap ≤ 9223372036854775807 ∧ base ≤ g ∧ g < w.heap.size := by
  have hc := h.2.cells (g := g) rfl
  rcases h.2.2 with ⟨hv, _⟩ | ⟨g', cap', cur, hv, hg, hh, hn, hm, hs, ht⟩
  · simp at hv
  · simp at hv
    obtain ⟨rfl, rfl⟩ := hv
    refine ⟨⟨_, ?_, rfl⟩, ?_, ?_, ?_, hn, by unfold maxLen at hm; omega, hg, (Array.getElem?_eq_some_iff.1 hh).1⟩
    · simp [World.shape?, hh, hs]
    · intro j hj
      rw [cell_of_row w g j cur _ (0, 0) hh, Array.getElem?_eq_getElem (by omega)]; rfl
    · intro j
      simp [World.frozen?, hh]
    · intro j v hj
      have := hc j v hj
      rwa [Addr.add_lit, Nat.zero_add] at this
end

end Go.Proofs.YtdbkjcnanffibaaGreat
