/-
  Contracts of command: the writer.
  Contracts of command: the writer's numbers.
  Contracts of command: the writer's methods.
  Contracts of command: the writer's kinds and lists.
  Contracts of command: a task, a command, an entry are written.
  Contracts of command: an entry is written.
  Contracts of command: an entry is encoded.
  A range over a function whose iterator turns memory ahead of each round, and once more behind the last one; what it yields is told by a relation.
-/
import Derived.Test.YtpkifcoichjnbaaSD
import Derived.Test.YtpkifcoichjnbaaHE
import Derived.Maps.AppendAt
import Derived.Deep.RegionHeld
import Derived.Deep.RegionHeld3
import Derived.Deep.Cut
namespace Go.Proofs.Ytpkifcoichjnbaa
open Go.RowKit Go.Deep
set_option linter.unusedVariables false
set_option linter.unusedSimpArgs false

/-- What a writer's method leaves: all blocks but the writer and its row of bytes are as they were; the row is the old one, or a new one. -/
structure WK (p : Nat) (v : Value) (W W' : World) (v' : Value) : Prop where
  os : W'.os = W.os
  tape : W'.tape = W.tape
  output : W'.output = W.output
  size : W.heap.size ≤ W'.heap.size
  block : ∀ b, b < W.heap.size → b ≠ p → v.ownBlock ≠ some b → W'.heap[b]? = W.heap[b]?
  row : ∀ g, v'.ownBlock = some g → v.ownBlock = some g ∨ W.heap.size ≤ g
theorem WK.refl (p : Nat) (v : Value) (W : World) : WK p v W W v := ⟨rfl, rfl, rfl, Nat.le_refl _, fun _ _ _ _ => rfl, fun _ h => .inl h⟩
theorem WK.trans {p : Nat} {v v1 v2 : Value} {A B C : World} (h : WK p v A B v1) (k : WK p v1 B C v2) : WK p v A C v2 := by
  refine ⟨k.os.trans h.os, k.tape.trans h.tape, k.output.trans h.output, Nat.le_trans h.size k.size, fun b hb h1 h2 => ?_, fun g hg => ?_⟩
  · refine (k.block b (Nat.lt_of_lt_of_le hb h.size) h1 (fun e => ?_)).trans (h.block b hb h1 h2)
    rcases h.row b e with e1 | e1
    · exact h2 e1
    · omega
  · rcases k.row g hg with e | e
    · exact h.row g e
    · exact .inr (Nat.le_trans h.size e)
/-- What only makes memory. -/
theorem WK.of_below {p : Nat} {v : Value} {A B : World} (h : Below A.heap.size A B) : WK p v A B v := ⟨h.os, h.tape, h.output, h.size, fun b hb _ _ => h.block b hb, fun _ e => .inl e⟩
theorem WK.below {p : Nat} {v v' : Value} {A B : World} (h : WK p v A B v') (hp : p < A.heap.size) (hv : ∀ g, v.ownBlock = some g → p < g) : Below p A B :=
  ⟨h.os, h.tape, h.output, h.size, fun b hb => h.block b (by omega) (by omega) (fun e => by have := hv b e; omega)⟩
/-- A cell that is neither the writer's nor its row's. -/
theorem WK.cell {p : Nat} {v v' : Value} {A B : World} (h : WK p v A B v') {a : Addr} {u : Value} (hc : A.cell? a = some u) (h1 : a.block ≠ p) (h2 : v.ownBlock ≠ some a.block) : B.cell? a = some u :=
  (World.cell?_of_block (h.block a.block (World.block_lt_of_cell? _ _ hc) h1 h2)).trans hc
/-- The writer's cells. -/
def WrC (W : World) (p : Nat) (v : Value) (lg bz : Bool) : Prop := (W.cell? ⟨p, 0, none⟩ = some v ∧ W.cell? ⟨p, 1, none⟩ = some (.bool lg) ∧ W.cell? ⟨p, 2, none⟩ = some (.bool bz)) ∧ W.frozen? ⟨p, 0, none⟩ = false ∧ W.frozen? ⟨p, 1, none⟩ = false ∧ W.frozen? ⟨p, 2, none⟩ = false
/-- The writer, with what it has written. -/
def Wr (W : World) (p : Nat) (v : Value) (l : List Int) (lg bz : Bool) : Prop := WrC W p v lg bz ∧ Own (p + 1) W v l.length l
theorem Wr.lt {W : World} {p : Nat} {v : Value} {l : List Int} {lg bz : Bool} (h : Wr W p v l lg bz) : p < W.heap.size := World.block_lt_of_cell? _ _ h.1.1.1
theorem Wr.row {W : World} {p : Nat} {v : Value} {l : List Int} {lg bz : Bool} (h : Wr W p v l lg bz) : ∀ g, v.ownBlock = some g → p < g ∧ g < W.heap.size := fun g hg => by
  have := h.2.1.lt g hg; omega
theorem WrC.below {W W' : World} {p : Nat} {v : Value} {lg bz : Bool} (h : WrC W p v lg bz) (hb : Below W.heap.size W W') : WrC W' p v lg bz := by
  obtain ⟨⟨h1, h2, h3⟩, f1, f2, f3⟩ := h
  exact ⟨⟨keepc hb h1, keepc hb h2, keepc hb h3⟩, keepf hb h1 f1, keepf hb h2 f2, keepf hb h3 f3⟩
theorem Own.below' {base : Nat} {w w' : World} {v : Value} {n : Nat} {l : List Int} (h : Own base w v n l) (hb : Below w.heap.size w w') : Own base w' v n l := by
  refine ⟨?_, h.2⟩
  obtain ⟨h0, h1⟩ := h.1
  refine ⟨h0, ?_⟩
  rcases h1 with h1 | ⟨g, cap, cur, hv, hg, hh, r⟩
  · exact .inl h1
  · exact .inr ⟨g, cap, cur, hv, hg, (hb.block g (Array.getElem?_eq_some_iff.1 hh).1).trans hh, r⟩
theorem Wr.below {W W' : World} {p : Nat} {v : Value} {l : List Int} {lg bz : Bool} (h : Wr W p v l lg bz) (hb : Below W.heap.size W W') : Wr W' p v l lg bz := ⟨h.1.below hb, h.2.below' hb⟩

/-- 'append(b, p...)' of bytes, among operations whose order is drawn. -/
theorem appB_step {ops : Array Oper} {o : Oper} {a : Act} {Q : Exit → Act → World → Prop} {K : Act → World → Prop} (wr : World) (hg : o.guard = none) (s y : Operand) (hop : o.op = Op.call { callee := Callee.builtin Builtin.append, args := #[s, y], argTypes := #[34, 34] })
    (base n : Nat) (v : Value) (l : List Int) (hs : a.eval s = v) (hown : Own base wr v n l) (hb : base ≤ wr.heap.size) (ao : Option Addr) (m c : Nat) (p : List Int) (hx : a.eval y = .slice ao m c) (hp : HoldsB wr ao m c p) (b1 : n + m ≤ 140737488355328)
    (hK : ∀ v' w', Own base w' v' (n + m) (l ++ p) → wr.grownBy w' v.ownBlock → (v'.ownBlock = v.ownBlock ∨ v'.ownBlock = some wr.heap.size) → K (a.put o.dst v') w') :
    if Region.wanted o (yielded ops a.tmps) = true then Oper.wp Try.prog o a wr K Q else K (a.put o.dst undef) wr := by
  rw [if_pos (by simp [Region.wanted, hg])]
  obtain ⟨i0, hi, hz0, hz1, hz2⟩ := info_parts info8
  obtain ⟨p1, p2, p3, p4, p5, p6, p7⟩ := hp
  unfold Oper.wp
  by_cases hm : 0 < m
  · obtain ⟨b, off, rfl, hc⟩ := p7 hm
    obtain ⟨v', w', hrun, h3, h2, _, h5⟩ := run_append_own_at (P := Try.prog) wr base 34 o.type 5 i0 (.int .u8 0) 1 1 Try.underlying34 hi hz0 hz1 hz2 rfl (by decide) v n _ hown.1 ⟨b, off, none⟩ m c (p.map (Value.int .u8)) (by simp [p1]) (by
      intro j u hj
      have hjm : j < m := by have := (List.getElem?_eq_some_iff.1 hj).1; simpa [p1] using this
      rw [Addr.add_lit, hc j hjm]
      rw [List.getElem?_map, List.getElem?_eq_getElem (by omega)] at hj
      rw [List.getElem?_eq_getElem (by omega)]
      simpa using hj) (ints_oneCell _ _) (by unfold maxLen; omega) (by omega) hb
    simp [execOp, hop, resolve, invoke, builtin, hs, hx, hrun, Result.andThen]
    exact hK v' w' ⟨by simpa using h3, hown.2.app p5⟩ h2 h5
  · obtain rfl : m = 0 := by omega
    obtain rfl : p = [] := List.length_eq_zero_iff.1 p1
    cases ao with
    | none =>
      obtain ⟨_, rfl⟩ := p6 rfl
      have hrun := run_append_owned_none (P := Try.prog) (w := wr) base 34 o.type 5 i0 1 Try.underlying34 hi v n _ hown.1
      simp [execOp, hop, resolve, invoke, builtin, hs, hx, hrun, Result.andThen]
      exact hK v wr (by simpa using hown) (World.grownBy.refl _ _) (.inl rfl)
    | some ad =>
      obtain ⟨v', w', hrun, h3, h2, _, h5⟩ := run_append_own_at (P := Try.prog) wr base 34 o.type 5 i0 (.int .u8 0) 1 1 Try.underlying34 hi hz0 hz1 hz2 rfl (by decide) v n _ hown.1 ad 0 c [] (by simp) (by simp) (by simp) (by unfold maxLen; omega) (by omega) hb
      simp [execOp, hop, resolve, invoke, builtin, hs, hx, hrun, Result.andThen]
      exact hK v' w' ⟨by simpa using h3, hown.2.app p5⟩ h2 h5
/-- What is written into the writer's field behind an append. -/
theorem wr_put {W w1 : World} {p : Nat} {v v' : Value} {l l' : List Int} {lg bz : Bool} (h : Wr W p v l lg bz) (hg : W.grownBy w1 v.ownBlock) (hv : v'.ownBlock = v.ownBlock ∨ v'.ownBlock = some W.heap.size) (ho : Own (p + 1) w1 v' l'.length l') :
    Wr (w1.setCell ⟨p, 0, none⟩ v') p v' l' lg bz ∧ WK p v W (w1.setCell ⟨p, 0, none⟩ v') v' := by
  have hp := h.lt
  have hr := h.row
  have hblk : w1.heap[p]? = W.heap[p]? := hg.block p hp (fun e => by have := hr p e.symm; omega)
  obtain ⟨⟨⟨c1, c2, c3⟩, f1, f2, f3⟩, _⟩ := h
  have d1 : w1.cell? ⟨p, 0, none⟩ = some v := (World.cell?_of_block hblk).trans c1
  have d2 : w1.cell? ⟨p, 1, none⟩ = some (.bool lg) := (World.cell?_of_block hblk).trans c2
  have d3 : w1.cell? ⟨p, 2, none⟩ = some (.bool bz) := (World.cell?_of_block hblk).trans c3
  have g1 : w1.frozen? ⟨p, 0, none⟩ = false := (World.frozen?_of_block hblk).trans f1
  have g2 : w1.frozen? ⟨p, 1, none⟩ = false := (World.frozen?_of_block hblk).trans f2
  have g3 : w1.frozen? ⟨p, 2, none⟩ = false := (World.frozen?_of_block hblk).trans f3
  refine ⟨⟨⟨⟨?_, ?_, ?_⟩, ?_, ?_, ?_⟩, ?_⟩, ?_⟩
  · exact World.cell?_setCell_same' _ _ _ (by rw [d1]; rfl)
  · rw [World.cell?_setCell_other _ _ _ _ (by simp)]; exact d2
  · rw [World.cell?_setCell_other _ _ _ _ (by simp)]; exact d3
  · rw [World.frozen?_setCell]; exact g1
  · rw [World.frozen?_setCell]; exact g2
  · rw [World.frozen?_setCell]; exact g3
  · exact ⟨ownsRow_setCell_below ho.1 (a := ⟨p, 0, none⟩) (Nat.lt_succ_self p) _, ho.2⟩
  · have hb := (Below.refl 0 w1).setCell (p := ⟨p, 0, none⟩) (Nat.zero_le _) v'
    refine ⟨hb.os.trans hg.os, hb.tape.trans hg.tape, hb.output.trans hg.output, Nat.le_trans hg.size hb.size, fun b h1 h2 h3 => ?_, fun g hgg => ?_⟩
    · exact (heap_setCell_other _ _ _ _ h2).trans (hg.block b h1 (fun e => h3 e.symm))
    · rcases hv with e | e
      · exact .inl (e ▸ hgg)
      · rw [e] at hgg; cases hgg; exact .inr (Nat.le_refl _)
end Go.Proofs.Ytpkifcoichjnbaa

namespace Go.Proofs.Ytpkifcoichjnbaa
open Go.RowKit Go.Deep
set_option linter.unusedVariables false
set_option linter.unusedSimpArgs false

theorem holdsB_none (w : World) : HoldsB w none 0 0 [] := ⟨rfl, by omega, by omega, by omega, (fun x hx => by cases hx), fun _ => ⟨rfl, rfl⟩, fun h => absurd h (by omega)⟩
/-- Whole numbers' bytes. -/
def bytesZ (xs : List Int) : List Int := xs.flatMap (fun x => numB (zig x))
theorem bytesZ_snoc {xs : List Int} {k : Nat} (h : k < xs.length) : bytesZ (xs.take (k + 1)) = bytesZ (xs.take k) ++ numB (zig (xs[k]?.getD 0)) := by
  unfold bytesZ
  rw [List.take_add_one, List.getElem?_eq_getElem h]
  simp only [Option.toList_some, List.flatMap_append, List.flatMap_cons, List.flatMap_nil, List.append_nil, Option.getD_some]
theorem bytesZ_len (xs : List Int) : (bytesZ xs).length ≤ 9 * xs.length := by
  induction xs with
  | nil => simp [bytesZ]
  | cons x r ih =>
    have e : bytesZ (x :: r) = numB (zig x) ++ bytesZ r := rfl
    rw [e, List.length_append, List.length_cons, numB_len]
    have := shelf_le (zig x)
    omega
theorem bytesZ_app (a b : List Int) : bytesZ (a ++ b) = bytesZ a ++ bytesZ b := by unfold bytesZ; rw [List.flatMap_append]

end Go.Proofs.Ytpkifcoichjnbaa

namespace Go.Proofs.Ytpkifcoichjnbaa
open Go.RowKit Go.Deep
set_option linter.unusedVariables false
set_option linter.unusedSimpArgs false

theorem bytesZ_len' (xs : List Int) : (bytesZ xs).length = (bytesZ xs).length := rfl
end Go.Proofs.Ytpkifcoichjnbaa

namespace Go.Proofs.Ytpkifcoichjnbaa
open Go.RowKit Go.Deep
set_option linter.unusedVariables false
set_option linter.unusedSimpArgs false

theorem wr_below {W : World} {p i : Nat} {v u : Value} : WK p v W (W.setCell ⟨p, i, none⟩ u) v := by
  have hb := (Below.refl 0 W).setCell (p := ⟨p, i, none⟩) (Nat.zero_le _) u
  exact ⟨hb.os, hb.tape, hb.output, hb.size, fun b _ h _ => heap_setCell_other _ _ _ _ h, fun g e => .inl e⟩
theorem wr_long {W : World} {p : Nat} {v : Value} {l : List Int} {lg bz : Bool} (h : Wr W p v l lg bz) : Wr (W.setCell ⟨p, 1, none⟩ (.bool true)) p v l true bz := by
  obtain ⟨⟨⟨c1, c2, c3⟩, f1, f2, f3⟩, ho⟩ := h
  refine ⟨⟨⟨?_, ?_, ?_⟩, ?_, ?_, ?_⟩, ownsRow_setCell_below ho.1 (a := ⟨p, 1, none⟩) (Nat.lt_succ_self p) _, ho.2⟩
  · rw [World.cell?_setCell_other _ _ _ _ (by simp)]; exact c1
  · exact World.cell?_setCell_same' _ _ _ (by rw [c2]; rfl)
  · rw [World.cell?_setCell_other _ _ _ _ (by simp)]; exact c3
  · rw [World.frozen?_setCell]; exact f1
  · rw [World.frozen?_setCell]; exact f2
  · rw [World.frozen?_setCell]; exact f3
theorem wr_neg {W : World} {p : Nat} {v : Value} {l : List Int} {lg bz : Bool} (h : Wr W p v l lg bz) : Wr (W.setCell ⟨p, 2, none⟩ (.bool true)) p v l lg true := by
  obtain ⟨⟨⟨c1, c2, c3⟩, f1, f2, f3⟩, ho⟩ := h
  refine ⟨⟨⟨?_, ?_, ?_⟩, ?_, ?_, ?_⟩, ownsRow_setCell_below ho.1 (a := ⟨p, 2, none⟩) (Nat.lt_succ_self p) _, ho.2⟩
  · rw [World.cell?_setCell_other _ _ _ _ (by simp)]; exact c1
  · rw [World.cell?_setCell_other _ _ _ _ (by simp)]; exact c2
  · exact World.cell?_setCell_same' _ _ _ (by rw [c3]; rfl)
  · rw [World.frozen?_setCell]; exact f1
  · rw [World.frozen?_setCell]; exact f2
  · rw [World.frozen?_setCell]; exact f3
/-- A kind's bytes. -/
def kindZ (x : Int) : List Int := if x < 0 then [] else numB x
theorem kindZ_len (x : Int) : (kindZ x).length ≤ 9 := by
  unfold kindZ
  split
  · simp
  · rw [numB_len]; have := shelf_le x; omega
/-- Numbers that lie ahead of the writer. -/
def HoldsP (p : Nat) (W : World) (a : Option Addr) (n c : Nat) (l : List Int) : Prop := HoldsN W a n c l ∧ ∀ b o, a = some ⟨b, o, none⟩ → 0 < n → b < p
theorem HoldsP.wk {p : Nat} {A B : World} {v v' : Value} {a : Option Addr} {n c : Nat} {l : List Int} (h : HoldsP p A a n c l) (k : WK p v A B v') (hv : ∀ g, v.ownBlock = some g → p < g) : HoldsP p B a n c l := by
  obtain ⟨⟨h1, h2, h3, h4, h5⟩, h6⟩ := h
  refine ⟨⟨h1, h2, h3, h4, fun hp => ?_⟩, h6⟩
  obtain ⟨b, o, e, hlt, hc⟩ := h5 hp
  have hb := h6 b o e hp
  exact ⟨b, o, e, Nat.lt_of_lt_of_le hlt k.size, fun j x hx i u hu => k.cell (hc j x hx i u hu) (by show b ≠ p; omega) (fun e2 => by have := hv b e2; omega)⟩
/-- A list's bytes. -/
def listZ (l : List Int) : List Int := if 1024 < l.length then [] else numB (l.length : Int) ++ bytesZ l
theorem listZ_len (l : List Int) : (listZ l).length ≤ 9 + 9 * 1024 := by
  unfold listZ
  split
  · simp
  · have h1 := bytesZ_len l
    have h2 := shelf_le (l.length : Int)
    rw [List.length_append, numB_len]; omega
end Go.Proofs.Ytpkifcoichjnbaa

namespace Go.Proofs.Ytpkifcoichjnbaa
open Go.RowKit Go.Deep
set_option linter.unusedVariables false
set_option linter.unusedSimpArgs false

/-- What lies in a box of cells. -/
def Box (W : World) (Q : Nat) (cs : Array Value) : Prop := ∀ i x, cs[i]? = some x → W.cell? ⟨Q, i, none⟩ = some x
theorem Box.alloc (W : World) (cs : Array Value) (t : Nat) : Box (W.alloc (.cells cs t)) W.heap.size cs := by
  intro i x h
  simp [go_sem, h]
theorem Box.wk {p : Nat} {v v' : Value} {A B : World} {Q : Nat} {cs : Array Value} (h : Box A Q cs) (k : WK p v A B v') (h1 : Q ≠ p) (h2 : v.ownBlock ≠ some Q) : Box B Q cs :=
  fun i x e => k.cell (h i x e) h1 h2
/-- A task's bytes. -/
def taskZ (t1 t2 c m wk : Int) (tk : List Int) (st : Int) : List Int := bytesZ [t1, t2, c, m, wk] ++ (listZ tk ++ bytesZ [st])
theorem taskZ_len (t1 t2 c m wk : Int) (tk : List Int) (st : Int) : (taskZ t1 t2 c m wk tk st).length ≤ 9300 := by
  have h1 := bytesZ_len [t1, t2, c, m, wk]
  have h2 := bytesZ_len [st]
  have h3 := listZ_len tk
  unfold taskZ
  simp only [List.length_append, List.length_cons, List.length_nil] at *
  omega
/-- A command's bytes. -/
def cmdZ (kd ci ic bt si : Int) (qs ns ts : List Int) : List Int := kindZ kd ++ (bytesZ [ci, ic, bt, si] ++ (qs ++ (ns ++ ts)))
end Go.Proofs.Ytpkifcoichjnbaa

namespace Go.Proofs.Ytpkifcoichjnbaa
open Go.RowKit Go.Deep
set_option linter.unusedVariables false
set_option linter.unusedSimpArgs false

theorem Box.range {W : World} {Q : Nat} {cs : Array Value} (h : Box W Q cs) (o : Nat) (l : List Value) (e : cs.toList.drop o = l) : W.rangeAt Q o l :=
  fun j v hv => h (o + j) v (by subst e; simpa using hv)
section
variable {ops : Array Oper} {rest : List Oper} {op : Oper} {a : Act} {w : World} {Q : Exit → Act → World → Prop}
end
/-- An entry's bytes. -/
def entZ (gp cl sq : Int) (cz : List Int) : List Int := bytesZ [gp, cl, sq] ++ cz
end Go.Proofs.Ytpkifcoichjnbaa

namespace Go.Proofs.Ytpkifcoichjnbaa
open Go.RowKit Go.Deep
set_option linter.unusedVariables false
set_option linter.unusedSimpArgs false

theorem HoldsN.toP {w w' : World} {a : Option Addr} {n c : Nat} {l : List Int} (h : HoldsN w a n c l) (hb : Below w.heap.size w w') {p : Nat} (hp : w.heap.size ≤ p) : HoldsP p w' a n c l :=
  ⟨h.below hb, fun b o e hn => by
    obtain ⟨b', o', e', hlt, _⟩ := h.2.2.2.2 hn
    rw [e] at e'; cases e'; omega⟩
theorem Box.below {w w' : World} {Q : Nat} {cs : Array Value} (h : Box w Q cs) (hb : Below w.heap.size w w') : Box w' Q cs := fun i x e => keepc hb (h i x e)
section
variable {ops : Array Oper} {rest : List Oper} {op : Oper} {a : Act} {w : World} {Q : Exit → Act → World → Prop}
theorem wpList_load_at (ty : Nat) (hw : Region.wanted op (yielded ops a.tmps) = true) (x : Operand) (ho : op.op = .load ty x) (b o : Nat) (hx : a.eval x = .pointer (some ⟨b, o, none⟩)) (cs : Array Value) (hl : (Instr.loadAt ty (.pointer (some ⟨b, o, none⟩))).run Try.prog w = .ok (.agg cs) w)
    (h : wpList Try.prog ops Q rest (a.put op.dst (.agg cs)) w) : wpList Try.prog ops Q (op :: rest) a w := by
  refine Go.BigFrame.wpList_want hw fun _ hK => ?_
  unfold Oper.wp execOp
  simp only [ho, hx, Sem.run_bind, Sem.run_pure, hl, Result.andThen_ok]
  exact hK _ _ h
end
/-- What encoding answers. -/
def encE (tn : Nat) (kd : Int) : Int := if 1024 < tn then 3 else if kd < 0 then 1 else 0
end Go.Proofs.Ytpkifcoichjnbaa

namespace Go.Proofs.Ytpkifcoichjnbaa
open Go.RowKit Go.Deep Go.Maps
set_option linter.unusedVariables false

/-- An iterator that does a step, Stp, ahead of each of its N rounds, by which it has what it yields; behind them it does Fin. -/
def TurnsX (F : Fence) (n : Nat) (P : Program) (gf : Nat) (lb : Array Value) (N : Nat) (Rd : Nat → World → Prop) (Stp : Nat → Value → World → World → Prop) (Fin : World → World → Prop) (w : World) : Prop :=
  ∀ (l : Nat) (J : Nat → World → Prop) (JM : Nat → Value → World → Prop) (JF : World → Prop) (W : World), Below w.heap.size w W → (∀ k A, J k A → Rd k A) → (∀ k x A B, J k A → k < N → Stp k x A B → JM k x B) → (∀ A B, J N A → Fin A B → JF B) →
    (∀ k x A, JM k x A → k < N → YieldAt F (n - 1) P l #[x] A fun e W' => e = .returned (.bool true) ∧ J (k + 1) W') → J 0 W →
    CallsIn F n P gf (#[.func (.yield l) #[] #[]] ++ lb) W fun e W' => (∃ v, e = .returned v) ∧ JF W'

theorem wpIn_rangeFunc_x {F : Fence} {n : Nat} {P : Program} {g : Operand} {ps : Array Tmp} {assign body : Code} {Q : Exit → Act → World → Prop} {a : Act} {w : World}
    (hro : F.round = none) (h1 : 1 ≤ n) {gf : Nat} {lb : Array Value} (hg : a.eval g = .func (.func gf) #[] lb) (hFg : F.fn gf) (eg : ∀ args w, (callFunc gf args).run P w = .ok (.enter gf args) w)
    {N : Nat} {Rd : Nat → World → Prop} {Stp : Nat → Value → World → World → Prop} {Fin : World → World → Prop} (hT : TurnsX F (n - 1) P gf lb N Rd Stp Fin w) (hps : ps.size = 1)
    (I : Nat → World → Prop) (IM : Nat → Value → World → Prop) (IF : World → Prop) (hI : OwnFrom w.heap.size I) (hIM : ∀ x, OwnFrom w.heap.size (fun k => IM k x)) (hIF : OwnFrom w.heap.size (fun (_ : Nat) => IF)) (h0 : I 0 w) (hRd : ∀ k A, I k A → Rd k A)
    (hStp : ∀ k x A B, I k A → k < N → Stp k x A B → IM k x B) (hFin : ∀ A B, I N A → Fin A B → IF B)
    (hKeep : ∀ k x A B (i : Nat) (o : Obj), I k A → Stp k x A B → w.heap.size ≤ i → A.heap[i]? = some o → o.isCells = false → B.heap[i]? = some o)
    (hKeepF : ∀ A B (i : Nat) (o : Obj), I N A → Fin A B → w.heap.size ≤ i → A.heap[i]? = some o → o.isCells = false → B.heap[i]? = some o)
    (a₁ : Nat → Value → Act)
    (hassign : ∀ (l k : Nat) (x : Value) (W : World) (K : Act → World → Prop), K (a₁ k x) W → assign.wpIn (F.inRound l) (n - 1 - 1) P (Exit.then K (fun _ _ _ => False)) { tmps := (ps.zip #[x]).foldl (fun t (p, v) => t.setIfInBounds p v) a.tmps, defers := [] } W)
    (hbody : ∀ (l k : Nat) (x : Value) (W : World), IM k x W → k < N → body.wpIn (F.inRound l) (n - 1 - 1) P (fun e _ W' => e = .normal ∧ KeepsFrom w.heap.size W W' ∧ I (k + 1) W') (a₁ k x) W)
    (hdone : ∀ (D : Nat) (W : World), w.heap.size ≤ D → IF W → W.heap[D]? = some (.deferred (some [])) → Q .normal { a with defers := { target := .collected D, args := #[] } :: a.defers } W) :
    (Code.rangeFunc g ps assign body).wpIn F n P Q a w := by
  refine wpIn_rangeFunc (fun fn hfn => ?_)
  rw [hro]
  let rec' : LoopState → Loop := fun st => { state := st, pending := none, fn, tmps := a.tmps, params := ps, assign, body, defers := w.heap.size }
  obtain ⟨L, hL⟩ : ∃ L, w.heap.size + 1 = L := ⟨_, rfl⟩
  obtain ⟨W1, hW1⟩ : ∃ W1, (w.alloc (.deferred (some []))).alloc (.loop (rec' .ready)) = W1 := ⟨_, rfl⟩
  have bW : Below w.heap.size w W1 := by rw [← hW1]; exact ((Below.refl _ w).alloc (Nat.le_refl _) _).alloc (by simp) _
  have lW : W1.heap[L]? = some (.loop (rec' .ready)) := by
    rw [← hW1, ← hL]; have := World.alloc_heap_new (w.alloc (.deferred (some []))) (.loop (rec' .ready)); rwa [World.size_alloc] at this
  have dW : W1.heap[w.heap.size]? = some (.deferred (some [])) := by
    rw [← hW1]; exact (Below.heap_alloc _ _ _ (by simp)).trans (World.alloc_heap_new w _)
  have iW : I 0 W1 := by rw [← hW1]; exact hI.alloc _ (hI.alloc _ h0)
  -- what stands between two rounds, and in the midst of one
  let Bk : World → Prop := fun W => W.heap[L]? = some (.loop (rec' .ready)) ∧ W.heap[w.heap.size]? = some (.deferred (some []))
  refine ⟨L, [{ target := .collected w.heap.size, args := #[] }], W1, { target := .fn (.func gf) lb, args := #[.func (.yield L) #[] #[]] }, W1, gf, #[.func (.yield L) #[] #[]] ++ lb, W1, ?_, ?_, ?_, ?_, fun _ => h1, ?_⟩
  · rw [← hW1, ← hL]; exact run_enterLoop_outer _ _ _ _ _
  · simp only [resolve, hg]
    simp [go_sem]
  · intro f' hf'; simp [Target.leads] at hf'; subst hf'; exact hFg
  · simp [invoke, go_sem, eg]
  · refine (hT L (fun k W => I k W ∧ Bk W) (fun k x W => IM k x W ∧ Bk W) (fun W => IF W ∧ Bk W) W1 bW (fun k A h => hRd k A h.1) (fun k x A B h hk hs => ⟨hStp k x A B h.1 hk hs, hKeep k x A B _ _ h.1 hs (by omega) h.2.1 rfl, hKeep k x A B _ _ h.1 hs (Nat.le_refl _) h.2.2 rfl⟩)
      (fun A B h hs => ⟨hFin A B h.1 hs, hKeepF A B _ _ h.1 hs (by omega) h.2.1 rfl, hKeepF A B _ _ h.1 hs (Nat.le_refl _) h.2.2 rfl⟩) ?_ ⟨iW, lW, dW⟩).mono ?_
    · rintro k x W ⟨hi, hl, hd⟩ hk
      have hlt : L < W.heap.size := (Array.getElem?_eq_some_iff.1 hl).1
      have hy := run_yield (P := P) (args := #[x]) hl (by simp [rec', hps])
      refine ⟨fn, _, assign, body, hy, roundIn_of_wpIn hfn (hassign _ k x W _ ⟨_, run_beginRound hl rfl, ?_⟩)⟩
      have l2 : (W.putObj L (.loop { rec' .ready with state := .busy })).heap[L]? = some (.loop { rec' .ready with state := .busy }) := World.putObj_heap_same hlt
      have d2 : (W.putObj L (.loop { rec' .ready with state := .busy })).heap[w.heap.size]? = some (.deferred (some [])) := (World.putObj_heap_other (by omega)).trans hd
      refine wpIn_mono (hbody L k x _ ((hIM x).putObj _ hi (by omega) hl rfl) hk) ?_
      rintro e a3 W3 ⟨rfl, hk3, hi3⟩
      have l3 := hk3.same _ _ (by omega) l2 rfl
      have d3 := hk3.same _ _ (Nat.le_refl _) d2 rfl
      refine ⟨_, _, run_endRound (P := P) none l3, rfl, hI.putObj _ hi3 (by omega) l3 rfl, ?_, ?_⟩
      · exact World.putObj_heap_same (Array.getElem?_eq_some_iff.1 l3).1
      · exact (World.putObj_heap_other (by omega)).trans d3
    · rintro e W2 ⟨⟨v, rfl⟩, hi, hl, hd⟩
      exact ⟨none, _, run_endLoop (P := P) hl (by simp [rec']), hdone _ _ (Nat.le_refl _) (hIF.putObj (s := (0 : Nat)) _ hi (by omega) hl rfl) ((World.putObj_heap_other (by omega)).trans hd)⟩

end Go.Proofs.Ytpkifcoichjnbaa
