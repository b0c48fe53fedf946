/-
  Contracts of command: the writer.
-/
import Derived.Test.YtkjglpgjflkmbaaSD
import Derived.Test.YtkjglpgjflkmbaaHE
import Derived.Maps.AppendAt
import Derived.Deep.RegionHeld
import Derived.Deep.RegionHeld3
namespace Go.Proofs.Ytkjglpgjflkmbaa
open Go.RowKit Go.Deep
set_option linter.unusedVariables false
set_option linter.unusedSimpArgs false

/-- What a writer's method leaves: all blocks but the writer and its row of bytes are as they were; the row is the old one, or a new one. -/
structure WK (p : Nat) (v : Value) (W W' : World) (v' : Value) : Prop where
  os : W'.os = W.os
  tape : W'.tape = W.tape
  output : W'.output = W.output
  size : W.heap.size ≤ W'.heap.size
  block : ∀ b, b < W.heap.size → b ≠ p → v.ownBlock ≠ some b → W'.heap[b]? = W.heap[b]?
  row : ∀ g, v'.ownBlock = some g → v.ownBlock = some g ∨ W.heap.size ≤ g
theorem WK.refl (p : Nat) (v : Value) (W : World) : WK p v W W v := ⟨rfl, rfl, rfl, Nat.le_refl _, fun _ _ _ _ => rfl, fun _ h => .inl h⟩
theorem WK.trans {p : Nat} {v v1 v2 : Value} {A B C : World} (h : WK p v A B v1) (k : WK p v1 B C v2) : WK p v A C v2 := by
  refine ⟨k.os.trans h.os, k.tape.trans h.tape, k.output.trans h.output, Nat.le_trans h.size k.size, fun b hb h1 h2 => ?_, fun g hg => ?_⟩
  · refine (k.block b (Nat.lt_of_lt_of_le hb h.size) h1 (fun e => ?_)).trans (h.block b hb h1 h2)
    rcases h.row b e with e1 | e1
    · exact h2 e1
    · omega
  · rcases k.row g hg with e | e
    · exact h.row g e
    · exact .inr (Nat.le_trans h.size e)
/-- What only makes memory. -/
theorem WK.of_below {p : Nat} {v : Value} {A B : World} (h : Below A.heap.size A B) : WK p v A B v := ⟨h.os, h.tape, h.output, h.size, fun b hb _ _ => h.block b hb, fun _ e => .inl e⟩
theorem WK.below {p : Nat} {v v' : Value} {A B : World} (h : WK p v A B v') (hp : p < A.heap.size) (hv : ∀ g, v.ownBlock = some g → p < g) : Below p A B :=
  ⟨h.os, h.tape, h.output, h.size, fun b hb => h.block b (by omega) (by omega) (fun e => by have := hv b e; omega)⟩
/-- A cell that is neither the writer's nor its row's. -/
theorem WK.cell {p : Nat} {v v' : Value} {A B : World} (h : WK p v A B v') {a : Addr} {u : Value} (hc : A.cell? a = some u) (h1 : a.block ≠ p) (h2 : v.ownBlock ≠ some a.block) : B.cell? a = some u :=
  (World.cell?_of_block (h.block a.block (World.block_lt_of_cell? _ _ hc) h1 h2)).trans hc
/-- The writer's cells. -/
def WrC (W : World) (p : Nat) (v : Value) (lg bz : Bool) : Prop := (W.cell? ⟨p, 0, none⟩ = some v ∧ W.cell? ⟨p, 1, none⟩ = some (.bool lg) ∧ W.cell? ⟨p, 2, none⟩ = some (.bool bz)) ∧ W.frozen? ⟨p, 0, none⟩ = false ∧ W.frozen? ⟨p, 1, none⟩ = false ∧ W.frozen? ⟨p, 2, none⟩ = false
/-- The writer, with what it has written. -/
def Wr (W : World) (p : Nat) (v : Value) (l : List Int) (lg bz : Bool) : Prop := WrC W p v lg bz ∧ Own (p + 1) W v l.length l
theorem Wr.lt {W : World} {p : Nat} {v : Value} {l : List Int} {lg bz : Bool} (h : Wr W p v l lg bz) : p < W.heap.size := World.block_lt_of_cell? _ _ h.1.1.1
theorem Wr.row {W : World} {p : Nat} {v : Value} {l : List Int} {lg bz : Bool} (h : Wr W p v l lg bz) : ∀ g, v.ownBlock = some g → p < g ∧ g < W.heap.size := fun g hg => by
  have := h.2.1.lt g hg; omega
theorem WrC.below {W W' : World} {p : Nat} {v : Value} {lg bz : Bool} (h : WrC W p v lg bz) (hb : Below W.heap.size W W') : WrC W' p v lg bz := by
  obtain ⟨⟨h1, h2, h3⟩, f1, f2, f3⟩ := h
  exact ⟨⟨keepc hb h1, keepc hb h2, keepc hb h3⟩, keepf hb h1 f1, keepf hb h2 f2, keepf hb h3 f3⟩
theorem Own.below' {base : Nat} {w w' : World} {v : Value} {n : Nat} {l : List Int} (h : Own base w v n l) (hb : Below w.heap.size w w') : Own base w' v n l := by
  refine ⟨?_, h.2⟩
  obtain ⟨h0, h1⟩ := h.1
  refine ⟨h0, ?_⟩
  rcases h1 with h1 | ⟨g, cap, cur, hv, hg, hh, r⟩
  · exact .inl h1
  · exact .inr ⟨g, cap, cur, hv, hg, (hb.block g (Array.getElem?_eq_some_iff.1 hh).1).trans hh, r⟩
theorem Wr.below {W W' : World} {p : Nat} {v : Value} {l : List Int} {lg bz : Bool} (h : Wr W p v l lg bz) (hb : Below W.heap.size W W') : Wr W' p v l lg bz := ⟨h.1.below hb, h.2.below' hb⟩

/-- 'append(b, p...)' of bytes, among operations whose order is drawn. -/
theorem appB_step {ops : Array Oper} {o : Oper} {a : Act} {Q : Exit → Act → World → Prop} {K : Act → World → Prop} (wr : World) (hg : o.guard = none) (s y : Operand) (hop : o.op = Op.call { callee := Callee.builtin Builtin.append, args := #[s, y], argTypes := #[37, 37] })
    (base n : Nat) (v : Value) (l : List Int) (hs : a.eval s = v) (hown : Own base wr v n l) (hb : base ≤ wr.heap.size) (ao : Option Addr) (m c : Nat) (p : List Int) (hx : a.eval y = .slice ao m c) (hp : HoldsB wr ao m c p) (b1 : n + m ≤ 140737488355328)
    (hK : ∀ v' w', Own base w' v' (n + m) (l ++ p) → wr.grownBy w' v.ownBlock → (v'.ownBlock = v.ownBlock ∨ v'.ownBlock = some wr.heap.size) → K (a.put o.dst v') w') :
    if Region.wanted o (yielded ops a.tmps) = true then Oper.wp Try.prog o a wr K Q else K (a.put o.dst undef) wr := by
  rw [if_pos (by simp [Region.wanted, hg])]
  obtain ⟨i0, hi, hz0, hz1, hz2⟩ := info_parts info8
  obtain ⟨p1, p2, p3, p4, p5, p6, p7⟩ := hp
  unfold Oper.wp
  by_cases hm : 0 < m
  · obtain ⟨b, off, rfl, hc⟩ := p7 hm
    obtain ⟨v', w', hrun, h3, h2, _, h5⟩ := run_append_own_at (P := Try.prog) wr base 37 o.type 5 i0 (.int .u8 0) 1 1 Try.underlying37 hi hz0 hz1 hz2 rfl (by decide) v n _ hown.1 ⟨b, off, none⟩ m c (p.map (Value.int .u8)) (by simp [p1]) (by
      intro j u hj
      have hjm : j < m := by have := (List.getElem?_eq_some_iff.1 hj).1; simpa [p1] using this
      rw [Addr.add_lit, hc j hjm]
      rw [List.getElem?_map, List.getElem?_eq_getElem (by omega)] at hj
      rw [List.getElem?_eq_getElem (by omega)]
      simpa using hj) (ints_oneCell _ _) (by unfold maxLen; omega) (by omega) hb
    simp [execOp, hop, resolve, invoke, builtin, hs, hx, hrun, Result.andThen]
    exact hK v' w' ⟨by simpa using h3, hown.2.app p5⟩ h2 h5
  · obtain rfl : m = 0 := by omega
    obtain rfl : p = [] := List.length_eq_zero_iff.1 p1
    cases ao with
    | none =>
      obtain ⟨_, rfl⟩ := p6 rfl
      have hrun := run_append_owned_none (P := Try.prog) (w := wr) base 37 o.type 5 i0 1 Try.underlying37 hi v n _ hown.1
      simp [execOp, hop, resolve, invoke, builtin, hs, hx, hrun, Result.andThen]
      exact hK v wr (by simpa using hown) (World.grownBy.refl _ _) (.inl rfl)
    | some ad =>
      obtain ⟨v', w', hrun, h3, h2, _, h5⟩ := run_append_own_at (P := Try.prog) wr base 37 o.type 5 i0 (.int .u8 0) 1 1 Try.underlying37 hi hz0 hz1 hz2 rfl (by decide) v n _ hown.1 ad 0 c [] (by simp) (by simp) (by simp) (by unfold maxLen; omega) (by omega) hb
      simp [execOp, hop, resolve, invoke, builtin, hs, hx, hrun, Result.andThen]
      exact hK v' w' ⟨by simpa using h3, hown.2.app p5⟩ h2 h5
/-- What is written into the writer's field behind an append. -/
theorem wr_put {W w1 : World} {p : Nat} {v v' : Value} {l l' : List Int} {lg bz : Bool} (h : Wr W p v l lg bz) (hg : W.grownBy w1 v.ownBlock) (hv : v'.ownBlock = v.ownBlock ∨ v'.ownBlock = some W.heap.size) (ho : Own (p + 1) w1 v' l'.length l') :
    Wr (w1.setCell ⟨p, 0, none⟩ v') p v' l' lg bz ∧ WK p v W (w1.setCell ⟨p, 0, none⟩ v') v' := by
  have hp := h.lt
  have hr := h.row
  have hblk : w1.heap[p]? = W.heap[p]? := hg.block p hp (fun e => by have := hr p e.symm; omega)
  obtain ⟨⟨⟨c1, c2, c3⟩, f1, f2, f3⟩, _⟩ := h
  have d1 : w1.cell? ⟨p, 0, none⟩ = some v := (World.cell?_of_block hblk).trans c1
  have d2 : w1.cell? ⟨p, 1, none⟩ = some (.bool lg) := (World.cell?_of_block hblk).trans c2
  have d3 : w1.cell? ⟨p, 2, none⟩ = some (.bool bz) := (World.cell?_of_block hblk).trans c3
  have g1 : w1.frozen? ⟨p, 0, none⟩ = false := (World.frozen?_of_block hblk).trans f1
  have g2 : w1.frozen? ⟨p, 1, none⟩ = false := (World.frozen?_of_block hblk).trans f2
  have g3 : w1.frozen? ⟨p, 2, none⟩ = false := (World.frozen?_of_block hblk).trans f3
  refine ⟨⟨⟨⟨?_, ?_, ?_⟩, ?_, ?_, ?_⟩, ?_⟩, ?_⟩
  · exact World.cell?_setCell_same' _ _ _ (by rw [d1]; rfl)
  · rw [World.cell?_setCell_other _ _ _ _ (by simp)]; exact d2
  · rw [World.cell?_setCell_other _ _ _ _ (by simp)]; exact d3
  · rw [World.frozen?_setCell]; exact g1
  · rw [World.frozen?_setCell]; exact g2
  · rw [World.frozen?_setCell]; exact g3
  · exact ⟨ownsRow_setCell_below ho.1 (a := ⟨p, 0, none⟩) (Nat.lt_succ_self p) _, ho.2⟩
  · have hb := (Below.refl 0 w1).setCell (p := ⟨p, 0, none⟩) (Nat.zero_le _) v'
    refine ⟨hb.os.trans hg.os, hb.tape.trans hg.tape, hb.output.trans hg.output, Nat.le_trans hg.size hb.size, fun b h1 h2 h3 => ?_, fun g hgg => ?_⟩
    · exact (heap_setCell_other _ _ _ _ h2).trans (hg.block b h1 (fun e => h3 e.symm))
    · rcases hv with e | e
      · exact .inl (e ▸ hgg)
      · rw [e] at hgg; cases hgg; exact .inr (Nat.le_refl _)
end Go.Proofs.Ytkjglpgjflkmbaa
