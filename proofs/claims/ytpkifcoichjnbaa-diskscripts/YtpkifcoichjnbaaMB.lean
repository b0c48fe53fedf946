/-
  Contracts of command: the reader takes a number.
  Contracts of command: the reader's int64, int, upTo.
  Contracts of command: the reader's place; two numbers.
  Contracts of furlongref10: a number is read.
  Contracts of furlongref10: a count, a number up to another.
  Contracts of furlongref10: what was read, to its end.
  What a list of things answers that are read one behind another: plain mathematics.
  Contracts of command: the reader's list of numbers.
  Contracts of command: the reader's list of numbers, gathered.
  Contracts of command: the reader's queue and node.
  Contracts of command: the reader's task.
  Contracts of command: the reader's command.
  Contracts of command: the reader's entry.
  Contracts of command: an entry is decoded.
  Rows of cells inside a fence: load, store; a range over a function whose rounds lay memory of their own for what is yielded.
  Leases: in memory, and as they come in.
  Arguments opened: queues, nodes, tasks, commands, entries.
  What was written is read; bytes that are cut short are told so: numbers, lists, tasks, commands, entries. Plain mathematics.
  Contracts of command: a list of leases is written.
  Contracts of furlongref10: whole numbers behind bytes.
  Contracts of furlongref10: a literal's numbers, a count, a list of numbers, a queue's and a node's numbers.
  Contracts of furlongref10: a task's bytes.
  Contracts of furlongref10: an entry's bytes.
  Contracts of command: lists of queues, nodes, tasks, hungers are written.
  Contracts of command: a flag, a lease, a hunger are written.
  Contracts of command: an answer, a state are written.
  Contracts of command: the reader's elements: queues, nodes, hungers.
  Contracts of command: the reader's lists of queues, nodes, hungers.
  Contracts of command: the reader's lease.
  Contracts of furlongref10: two tasks are alike.
  Contracts of furlongref10: two entries are alike.
  Contracts of furlongref10: leases, lists of leases and of queues that are alike.
  Contracts of furlongref10: a task, an entry with memory of its own.
  Contracts of furlongref10: a lease's bytes.
  Contracts of furlongref10: a list of leases; are leases short?
  Contracts of furlongref10: leases with memory of their own.
  Contracts of command: the reader's elements: tasks, leases.
  Contracts of command: the reader's lists of tasks, leases.
  Contracts of command: an answer, a state are encoded.
  Contracts of command: the reader's answer and state.
  Contracts of command: an answer, a state are decoded.
  Contracts of furlongref10: numbers in a row.
  Contracts of furlongref10: a list of numbers that is read.
  Contracts of furlongref10: a queue, a node that is read.
-/
import Derived.Test.YtpkifcoichjnbaaMA
import Derived.Test.YtpkifcoichjnbaaSH
import Derived.Stop.RegionWithIn
import Derived.Shelf.Abstract
import Derived.Shelf.RegionOpen
import Derived.TacticsInMore
import Derived.LoopNIn
import Derived.LoopIn
import Derived.Maps.AppendAt
import Derived.Test.YtpkifcoichjnbaaHE
import Derived.Test.YtpkifcoichjnbaaOpenS
import Derived.Test.YtpkifcoichjnbaaSQ
import Derived.Test.YtpkifcoichjnbaaSE
import Derived.Laws.StructEq
import Derived.Deep.CutBlock
namespace Go.Proofs.Ytpkifcoichjnbaa
open Go.RowKit Go.Deep
set_option linter.unusedVariables false
set_option linter.unusedSimpArgs false

/-- The reader's cells. -/
def RdC (W : World) (p : Nat) (b : Value) (at' er : Int) : Prop := (W.cell? ⟨p, 0, none⟩ = some b ∧ W.cell? ⟨p, 1, none⟩ = some (.int .i64 at') ∧ W.cell? ⟨p, 2, none⟩ = some (.int .i64 er)) ∧ W.frozen? ⟨p, 0, none⟩ = false ∧ W.frozen? ⟨p, 1, none⟩ = false ∧ W.frozen? ⟨p, 2, none⟩ = false
/-- What a reader's method leaves: all blocks but the reader's. -/
def RK (p : Nat) (W W' : World) : Prop := WK p (.slice none 0 0) W W' (.slice none 0 0)
theorem RK.refl (p : Nat) (W : World) : RK p W W := WK.refl _ _ _
theorem RK.trans {p : Nat} {A B C : World} (h : RK p A B) (k : RK p B C) : RK p A C := WK.trans h k
theorem RK.holds {p : Nat} {A B : World} (h : RK p A B) {a : Option Addr} {n c : Nat} {l : List Int} (hl : HoldsB A a n c l) (hne : ∀ b o, a = some ⟨b, o, none⟩ → 0 < n → b ≠ p) : HoldsB B a n c l := by
  obtain ⟨h1, h2, h3, h4, h5, h6, h7⟩ := hl
  refine ⟨h1, h2, h3, h4, h5, h6, fun hp => ?_⟩
  obtain ⟨b, o, e, hc⟩ := h7 hp
  exact ⟨b, o, e, fun j hj => h.cell (hc j hj) (hne b o e hp) (by intro e; cases e)⟩
theorem RK.setCell (p j : Nat) (u : Value) (A : World) : RK p A (A.setCell ⟨p, j, none⟩ u) :=
  ⟨rfl, rfl, rfl, by simp, fun b _ h1 _ => Below.heap_setCell A _ _ b h1, fun _ e => .inl e⟩
end Go.Proofs.Ytpkifcoichjnbaa

namespace Go.Proofs.Ytpkifcoichjnbaa
open Go.RowKit Go.Deep
set_option linter.unusedVariables false
set_option linter.unusedSimpArgs false

/-- What a taken number answers: it, the place, the error. -/
def tkI (l : List Int) (A E : Int) : Int × Int × Int := if E = 0 then (zag (rd l A).1, (rd l A).2.1, (rd l A).2.2) else (0, A, E)
/-- What a number up to 'most' answers. -/
def upT (l : List Int) (A E most f : Int) : Int × Int × Int := if E = 0 then (if most < (rd l A).1 then (0, A, f) else rd l A) else (0, A, E)

end Go.Proofs.Ytpkifcoichjnbaa

namespace Go.Proofs.Ytpkifcoichjnbaa
open Go.RowKit Go.Deep
set_option linter.unusedVariables false
set_option linter.unusedSimpArgs false

theorem rd_at (l : List Int) (p : Int) (h0 : 0 ≤ p) (h1 : p ≤ l.length) : 0 ≤ (rd l p).2.1 ∧ (rd l p).2.1 ≤ l.length := by
  unfold rd
  split
  · simp only; omega
  split
  · simp only; omega
  split
  · simp only; omega
  split
  · simp only; omega
  split
  · simp only; omega
  split
  · simp only; omega
  · simp only; omega
theorem tkI_at (l : List Int) (A E : Int) (h0 : 0 ≤ A) (h1 : A ≤ l.length) : 0 ≤ (tkI l A E).2.1 ∧ (tkI l A E).2.1 ≤ l.length := by
  unfold tkI
  split
  · exact rd_at l A h0 h1
  · exact ⟨h0, h1⟩
theorem RdC.below {W W' : World} {p : Nat} {b : Value} {A E : Int} (h : RdC W p b A E) (hb : Below W.heap.size W W') : RdC W' p b A E := by
  obtain ⟨⟨h1, h2, h3⟩, f1, f2, f3⟩ := h
  exact ⟨⟨keepc hb h1, keepc hb h2, keepc hb h3⟩, keepf hb h1 f1, keepf hb h2 f2, keepf hb h3 f3⟩
theorem RdC.lt {W : World} {p : Nat} {b : Value} {A E : Int} (h : RdC W p b A E) : p < W.heap.size := World.block_lt_of_cell? _ _ h.1.1
theorem RK.keep {p : Nat} {A B : World} (h : RK p A B) {a : Addr} {u : Value} (hc : A.cell? a = some u) (h1 : a.block ≠ p) : B.cell? a = some u := h.cell hc h1 (by intro e; cases e)
theorem RK.froz {p : Nat} {A B : World} (h : RK p A B) {a : Addr} {u : Value} (hc : A.cell? a = some u) (h1 : a.block ≠ p) : B.frozen? a = A.frozen? a :=
  World.frozen?_of_block (h.block a.block (World.block_lt_of_cell? _ _ hc) h1 (by intro e; cases e))

theorem RK.set {p : Nat} {A B : World} (h : RK p A B) (q j : Nat) (u : Value) (hq : A.heap.size ≤ q) : RK p A (B.setCell ⟨q, j, none⟩ u) :=
  ⟨h.os, h.tape, h.output, by simpa using h.size, fun b hb h1 h2 => (Below.heap_setCell B _ _ b (fun e => by have : b = q := e; omega)).trans (h.block b hb h1 h2), fun _ e => .inl e⟩

end Go.Proofs.Ytpkifcoichjnbaa

namespace Go.Proofs.Ytpkifcoichjnbaa
open Go.RowKit Go.Deep
set_option linter.unusedVariables false
set_option linter.unusedSimpArgs false
end Go.Proofs.Ytpkifcoichjnbaa

namespace Go.Proofs.Ytpkifcoichjnbaa
open Go.RowKit Go.Deep
set_option linter.unusedVariables false
set_option linter.unusedSimpArgs false

theorem rd_zero (l : List Int) (p : Int) (h : (rd l p).2.2 ≠ 0) : (rd l p).1 = 0 := by
  unfold rd at *
  split
  · rfl
  split
  · rfl
  split
  · rename_i h1 h2 h3
    rw [if_neg h1, if_neg h2, if_pos h3] at h
    simp at h
  split
  · rfl
  split
  · rfl
  split
  · rfl
  · rename_i h1 h2 h3 h4 h5 h6
    rw [if_neg h1, if_neg h2, if_neg h3, if_neg h4, if_neg h5, if_neg h6] at h
    simp at h

end Go.Proofs.Ytpkifcoichjnbaa

namespace Go.Proofs.Ytpkifcoichjnbaa
open Go.RowKit Go.Deep
set_option linter.unusedVariables false
set_option linter.unusedSimpArgs false

/-- The place of the fault, and the error. -/
def endT (n : Nat) (A E : Int) : Int × Int := if E = 0 then (if A < n then (A, 7) else (0, 0)) else (A, E)
end Go.Proofs.Ytpkifcoichjnbaa

namespace Go.Proofs.Ytpkifcoichjnbaa
open Go.RowKit Go.Deep
set_option linter.unusedVariables false

section
variable {α : Type}
/-- The place and the error behind k things. -/
def lsS (pe : Int → Int → α × Int × Int) (A E : Int) : Nat → Int × Int
  | 0 => (A, E)
  | k + 1 => (pe (lsS pe A E k).1 (lsS pe A E k).2).2
/-- The k-th thing. -/
def lsV (pe : Int → Int → α × Int × Int) (A E : Int) (k : Nat) : α := (pe (lsS pe A E k).1 (lsS pe A E k).2).1
/-- How many are read, of so many more, k being read. -/
def lsN (pe : Int → Int → α × Int × Int) (A E : Int) : Nat → Nat → Nat
  | 0, k => k
  | f + 1, k => if (lsS pe A E (k + 1)).2 = 0 then lsN pe A E f (k + 1) else k
theorem lsN_le (pe : Int → Int → α × Int × Int) (A E : Int) : ∀ f k, k ≤ lsN pe A E f k ∧ lsN pe A E f k ≤ k + f
  | 0, k => ⟨Nat.le_refl _, Nat.le_refl _⟩
  | f + 1, k => by
    unfold lsN
    split
    · have := lsN_le pe A E f (k + 1); omega
    · omega
theorem lsN_yes (pe : Int → Int → α × Int × Int) (A E : Int) : ∀ f k j, k ≤ j → j < lsN pe A E f k → (lsS pe A E (j + 1)).2 = 0
  | 0, k, j, h1, h2 => by unfold lsN at h2; omega
  | f + 1, k, j, h1, h2 => by
    unfold lsN at h2
    split at h2
    · rename_i h
      rcases Nat.eq_or_lt_of_le h1 with e | e
      · subst e; exact h
      · exact lsN_yes pe A E f (k + 1) j (by omega) h2
    · omega
theorem lsN_no (pe : Int → Int → α × Int × Int) (A E : Int) : ∀ f k, lsN pe A E f k < k + f → (lsS pe A E (lsN pe A E f k + 1)).2 ≠ 0
  | 0, k, h => by unfold lsN at h; omega
  | f + 1, k, h => by
    unfold lsN at h ⊢
    split
    · rename_i h1
      rw [if_pos h1] at h
      exact lsN_no pe A E f (k + 1) (by omega)
    · rename_i h1; exact h1
/-- All of n are read. -/
theorem lsN_all (pe : Int → Int → α × Int × Int) (A E : Int) (f k : Nat) (h : ∀ j, k ≤ j → j < k + f → (lsS pe A E (j + 1)).2 = 0) : lsN pe A E f k = k + f := by
  have h1 := lsN_le pe A E f k
  apply Classical.byContradiction
  intro hn
  have h2 := lsN_no pe A E f k (by omega)
  exact h2 (h _ h1.1 (by omega))
/-- How many there are, of so many. -/
def lsC (pe : Int → Int → α × Int × Int) (A E : Int) (c : Int) : Nat := lsN pe A E c.toNat 0
/-- The things that are read. -/
def lsL (pe : Int → Int → α × Int × Int) (A E c : Int) : List α := (List.range (lsC pe A E c)).map (lsV pe A E)
/-- The place and the error behind them. -/
def lsF (pe : Int → Int → α × Int × Int) (A E c : Int) : Int × Int := if lsC pe A E c < c.toNat then lsS pe A E (lsC pe A E c + 1) else lsS pe A E (lsC pe A E c)
theorem lsC_le (pe : Int → Int → α × Int × Int) (A E c : Int) : lsC pe A E c ≤ c.toNat := by have := (lsN_le pe A E c.toNat 0).2; unfold lsC; omega
theorem lsL_len (pe : Int → Int → α × Int × Int) (A E c : Int) : (lsL pe A E c).length = lsC pe A E c := by simp [lsL]
theorem lsL_take (pe : Int → Int → α × Int × Int) (A E c : Int) {k : Nat} (h : k < lsC pe A E c) : (List.range (k + 1)).map (lsV pe A E) = (List.range k).map (lsV pe A E) ++ [lsV pe A E k] := by
  rw [List.range_succ, List.map_append]; rfl
end
end Go.Proofs.Ytpkifcoichjnbaa

namespace Go.Proofs.Ytpkifcoichjnbaa
open Go.RowKit Go.Deep Go.Maps
set_option linter.unusedVariables false
set_option linter.unusedSimpArgs false
attribute [local go_sem] Oper.semAt_some
attribute [local go_sem ↓] appF_eq

/-- The reader as it stands while a list is read: k things behind the count. -/
def lsP {α : Type} (pe : Int → Int → α × Int × Int) (l : List Int) (A E : Int) (k : Nat) : Int × Int := if k = 0 then (A, E) else lsS pe (upT l A E 1024 3).2.1 (upT l A E 1024 3).2.2 k
theorem lsP_zero {α : Type} (pe : Int → Int → α × Int × Int) (l : List Int) (A E : Int) : lsP pe l A E 0 = (A, E) := rfl
theorem lsP_succ {α : Type} (pe : Int → Int → α × Int × Int) (l : List Int) (A E : Int) (k : Nat) : lsP pe l A E (k + 1) = lsS pe (upT l A E 1024 3).2.1 (upT l A E 1024 3).2.2 (k + 1) := rfl
/-- How many things of a list are read, the things, and the reader behind them. -/
def liC {α : Type} (pe : Int → Int → α × Int × Int) (l : List Int) (A E : Int) : Nat := lsC pe (upT l A E 1024 3).2.1 (upT l A E 1024 3).2.2 (upT l A E 1024 3).1
def liL {α : Type} (pe : Int → Int → α × Int × Int) (l : List Int) (A E : Int) : List α := lsL pe (upT l A E 1024 3).2.1 (upT l A E 1024 3).2.2 (upT l A E 1024 3).1
def liF {α : Type} (pe : Int → Int → α × Int × Int) (l : List Int) (A E : Int) : Int × Int := lsF pe (upT l A E 1024 3).2.1 (upT l A E 1024 3).2.2 (upT l A E 1024 3).1
/-- The k-th thing. -/
def liV {α : Type} (pe : Int → Int → α × Int × Int) (l : List Int) (A E : Int) (k : Nat) : α := lsV pe (upT l A E 1024 3).2.1 (upT l A E 1024 3).2.2 k
/-- The first k things. -/
def liT {α : Type} (pe : Int → Int → α × Int × Int) (l : List Int) (A E : Int) (k : Nat) : List α := (List.range k).map (liV pe l A E)
theorem liT_len {α : Type} (pe : Int → Int → α × Int × Int) (l : List Int) (A E : Int) (k : Nat) : (liT pe l A E k).length = k := by simp [liT]
theorem liT_succ {α : Type} (pe : Int → Int → α × Int × Int) (l : List Int) (A E : Int) (k : Nat) : liT pe l A E (k + 1) = liT pe l A E k ++ [liV pe l A E k] := by
  unfold liT; rw [List.range_succ, List.map_append]; rfl
theorem liT_all {α : Type} (pe : Int → Int → α × Int × Int) (l : List Int) (A E : Int) : liT pe l A E (liC pe l A E) = liL pe l A E := rfl
theorem upT_at (l : List Int) (A E m f : Int) (h0 : 0 ≤ A) (h1 : A ≤ l.length) : 0 ≤ (upT l A E m f).2.1 ∧ (upT l A E m f).2.1 ≤ l.length := by
  unfold upT
  split
  · split
    · exact ⟨h0, h1⟩
    · exact rd_at l A h0 h1
  · exact ⟨h0, h1⟩
theorem upT_bd (l : List Int) (A E m f : Int) (hb : BB l) (hm : 0 ≤ m) : 0 ≤ (upT l A E m f).1 ∧ (upT l A E m f).1 ≤ m := by
  unfold upT
  have := rd_bd l A hb
  split
  · split
    · exact ⟨Int.le_refl 0, hm⟩
    · exact ⟨this.1, by omega⟩
  · exact ⟨Int.le_refl 0, hm⟩
theorem liC_le {α : Type} (pe : Int → Int → α × Int × Int) (l : List Int) (A E : Int) (hb : BB l) : (liC pe l A E : Int) ≤ (upT l A E 1024 3).1 ∧ liC pe l A E ≤ 1024 := by
  have h := lsC_le pe (upT l A E 1024 3).2.1 (upT l A E 1024 3).2.2 (upT l A E 1024 3).1
  have := upT_bd l A E 1024 3 hb (by omega)
  unfold liC; omega
theorem lsS_at {α : Type} {pe : Int → Int → α × Int × Int} {n : Nat} (hp : ∀ A E : Int, 0 ≤ A → A ≤ (n : Int) → 0 ≤ (pe A E).2.1 ∧ (pe A E).2.1 ≤ (n : Int)) {A E : Int} (h0 : 0 ≤ A) (h1 : A ≤ n) : ∀ k, 0 ≤ (lsS pe A E k).1 ∧ (lsS pe A E k).1 ≤ n
  | 0 => ⟨h0, h1⟩
  | k + 1 => by have h := lsS_at hp (E := E) h0 h1 k; exact hp _ _ h.1 h.2
theorem liF_at {α : Type} {pe : Int → Int → α × Int × Int} {l : List Int} (hp : ∀ A E, 0 ≤ A → A ≤ (l.length : Int) → 0 ≤ (pe A E).2.1 ∧ (pe A E).2.1 ≤ (l.length : Int)) {A E : Int} (h0 : 0 ≤ A) (h1 : A ≤ l.length) : 0 ≤ (liF pe l A E).1 ∧ (liF pe l A E).1 ≤ l.length := by
  have h := upT_at l A E 1024 3 h0 h1
  unfold liF lsF
  split
  · exact lsS_at hp h.1 h.2 _
  · exact lsS_at hp h.1 h.2 _

end Go.Proofs.Ytpkifcoichjnbaa

namespace Go.Proofs.Ytpkifcoichjnbaa
open Go.RowKit Go.Deep Go.Maps
set_option linter.unusedVariables false
set_option linter.unusedSimpArgs false
attribute [local go_sem] Oper.semAt_some
attribute [local go_sem ↓] appF_eq

theorem RK.own {p : Nat} {w A B : World} {row : Option Nat} {S : Nat} (h : RK p w A) (hg : A.grownBy B row) (hr : ∀ r, row = some r → S ≤ r) (hS : w.heap.size ≤ S) : RK p w B :=
  ⟨hg.os.trans h.os, hg.tape.trans h.tape, hg.output.trans h.output, Nat.le_trans h.size hg.size, fun b hb h1 h2 => (hg.block b (Nat.lt_of_lt_of_le hb h.size) (fun e => by have := hr b e.symm; omega)).trans (h.block b hb h1 h2), fun _ e => by cases e⟩
theorem RdC.own {p : Nat} {A B : World} {b : Value} {X E : Int} {row : Option Nat} (h : RdC A p b X E) (hg : A.grownBy B row) (hr : ∀ r, row = some r → ∃ o : Obj, A.heap[r]? = some o ∧ o.isCells = false) : RdC B p b X E := by
  obtain ⟨⟨h1, h2, h3⟩, f1, f2, f3⟩ := h
  exact ⟨⟨cell_kept h1 hg hr, cell_kept h2 hg hr, cell_kept h3 hg hr⟩, (frozen_kept h1 hg hr).trans f1, (frozen_kept h2 hg hr).trans f2, (frozen_kept h3 hg hr).trans f3⟩
theorem RdC.same {p : Nat} {A B : World} {b : Value} {X E : Int} (h : RdC A p b X E) (hb : B.heap[p]? = A.heap[p]?) : RdC B p b X E := by
  obtain ⟨⟨h1, h2, h3⟩, f1, f2, f3⟩ := h
  exact ⟨⟨(World.cell?_of_block (w := A) hb).trans h1, (World.cell?_of_block (w := A) hb).trans h2, (World.cell?_of_block (w := A) hb).trans h3⟩, (World.frozen?_of_block (w := A) hb).trans f1, (World.frozen?_of_block (w := A) hb).trans f2, (World.frozen?_of_block (w := A) hb).trans f3⟩
theorem OwnE.rk {α : Type} {e : TypeId} {k p : Nat} {enc : α → List Value} {base n : Nat} {l : List α} {v : Value} {w w' : World} (h : OwnE e k enc base w v n l) (T : RK p w w') (h1 : p < base) : OwnE e k enc base w' v n l := by
  obtain ⟨h0, h3, h4⟩ := h
  refine ⟨h0, h3, ?_⟩
  rcases h4 with h4 | ⟨g, cap, cur, hv, hg, hh, q⟩
  · exact .inl h4
  · exact .inr ⟨g, cap, cur, hv, hg, (T.block g (Array.getElem?_eq_some_iff.1 hh).1 (by omega) (by intro e; cases e)).trans hh, q⟩
theorem RK.bel {p : Nat} {A B C : World} (h : RK p A B) (hb : Below B.heap.size B C) : RK p A C := h.trans (WK.of_below hb)

end Go.Proofs.Ytpkifcoichjnbaa

namespace Go.Proofs.Ytpkifcoichjnbaa
open Go.RowKit Go.Deep
set_option linter.unusedVariables false
set_option linter.unusedSimpArgs false

/-- The k-th of the numbers that are taken one behind another. -/
def tkc (l : List Int) (A E : Int) : Nat → Int × Int × Int
  | 0 => tkI l A E
  | k + 1 => tkI l (tkc l A E k).2.1 (tkc l A E k).2.2
theorem tkc_at (l : List Int) (A E : Int) (h0 : 0 ≤ A) (h1 : A ≤ l.length) : ∀ k, 0 ≤ (tkc l A E k).2.1 ∧ (tkc l A E k).2.1 ≤ l.length
  | 0 => tkI_at l A E h0 h1
  | k + 1 => by have h := tkc_at l A E h0 h1 k; exact tkI_at l _ _ h.1 h.2
theorem Box.rk {p Q : Nat} {A B : World} {cs : Array Value} (h : Box A Q cs) (k : RK p A B) (h1 : Q ≠ p) : Box B Q cs := fun i x e => k.keep (h i x e) h1
theorem RK.frs {p Q : Nat} {A B : World} (k : RK p A B) (h : ∀ j, A.frozen? ⟨Q, j, none⟩ = false) (hq : Q < A.heap.size) (h1 : Q ≠ p) : ∀ j, B.frozen? ⟨Q, j, none⟩ = false :=
  fun j => (World.frozen?_of_block (a := ⟨Q, j, none⟩) (k.block Q hq h1 (by intro e; cases e))).trans (h j)
end Go.Proofs.Ytpkifcoichjnbaa

namespace Go.Proofs.Ytpkifcoichjnbaa
open Go.RowKit Go.Deep Go.Maps
set_option linter.unusedVariables false
set_option linter.unusedSimpArgs false

/-- What lies in a block of cells, whole. -/
def Blk (W : World) (Q t : Nat) (cs : Array Value) : Prop := W.heap[Q]? = some (.cells cs t (0, 0))
theorem Blk.alloc (W : World) (cs : Array Value) (t : Nat) : Blk (W.alloc (.cells cs t)) W.heap.size t cs := heap_alloc_new W _
theorem Blk.lt {W : World} {Q t : Nat} {cs : Array Value} (h : Blk W Q t cs) : Q < W.heap.size := (Array.getElem?_eq_some_iff.1 h).1
theorem Blk.rk {p Q t : Nat} {A B : World} {cs : Array Value} (h : Blk A Q t cs) (k : RK p A B) (h1 : Q ≠ p) : Blk B Q t cs := (k.block Q h.lt h1 (by intro e; cases e)).trans h
theorem Blk.below {Q t : Nat} {A B : World} {cs : Array Value} (h : Blk A Q t cs) (k : Below A.heap.size A B) : Blk B Q t cs := (k.block Q h.lt).trans h
theorem Blk.row {Q t : Nat} {A : World} {cs : Array Value} (h : Blk A Q t cs) (ds : Array Value) : Blk (A.setRow Q ds) Q t ds := setRow_heap A Q cs ds t _ h
theorem Blk.range {W : World} {Q t : Nat} {cs : Array Value} (h : Blk W Q t cs) : W.rangeAt Q 0 cs.toList := fun j v hv => by
  rw [Nat.zero_add]
  have h' : W.heap[Q]? = some (.cells cs t (0, 0)) := h
  simp [World.cell?, h']
  simpa using hv
theorem Blk.loadVar {W : World} {Q t ty : Nat} {cs : Array Value} {d : TypeDesc} (h : Blk W Q t cs) (hu : Try.prog.underlying ty = some d) (hd : d.isRow = true) (hi : (Try.prog.info? ty).map (·.size) = some cs.size) : (loadVar ty ⟨Q, 0, none⟩).run Try.prog W = .ok (.agg cs) W := by
  have := run_loadVar_mid (P := Try.prog) W Q 0 ty cs.toList d h.range hu hd (by simpa using hi)
  simpa using this
theorem results_cell {fn : Func} {t : Tmp} {ty : TypeId} (h : fn.results = #[.cell t ty]) {tmps : Array Value} {P : Program} {w : World} {a : Addr} {v : Value} (ht : tmps.getD t undef = .pointer (some a)) (hl : (loadVar ty a).run P w = .ok v w) : (results fn tmps).run P w = .ok v w := by
  rw [Array.getD_eq_getD_getElem?] at ht
  simp [results, h, ht, asAddr, hl]
theorem results_cell3 {fn : Func} {t x y : Tmp} {ty : TypeId} (h : fn.results = #[.cell t ty, .tmp x, .tmp y]) {tmps : Array Value} {P : Program} {w : World} {a : Addr} {v : Value} (ht : tmps.getD t undef = .pointer (some a)) (hl : (loadVar ty a).run P w = .ok v w) : (results fn tmps).run P w = .ok (.tuple #[v, tmps.getD x undef, tmps.getD y undef]) w := by
  rw [Array.getD_eq_getD_getElem?] at ht
  simp [results, h, ht, asAddr, hl]
theorem RK.row {p : Nat} {A B : World} (h : RK p A B) (q : Nat) (cs : Array Value) (hq : A.heap.size ≤ q) : RK p A (B.setRow q cs) :=
  ⟨h.os, h.tape, h.output, by simpa using h.size, fun b hb h1 h2 => (setRow_other B q b cs (by omega)).trans (h.block b hb h1 h2), fun _ e => by cases e⟩
theorem OwnE.row {α : Type} {e : TypeId} {k q : Nat} {enc : α → List Value} {base n : Nat} {l : List α} {v : Value} {w : World} (h : OwnE e k enc base w v n l) (h1 : q < base) (cs : Array Value) : OwnE e k enc base (w.setRow q cs) v n l := by
  obtain ⟨h0, h3, h4⟩ := h
  refine ⟨h0, h3, ?_⟩
  rcases h4 with h4 | ⟨g, cap, cur, hv, hg, hh, r⟩
  · exact .inl h4
  · exact .inr ⟨g, cap, cur, hv, hg, (setRow_other w q g cs (by omega)).trans hh, r⟩
section
variable {ops : Array Oper} {rest : List Oper} {op : Oper} {a : Act} {w : World} {Q : Exit → Act → World → Prop}
theorem wpList_built (hg : op.guard = none) (t : TypeId) (parts : Array (Nat × Operand)) (ho : op.op = .build t parts) (cs : Array Value) (hb : Try.prog.built t (parts.map fun (i, x) => (i, a.eval x)).toList = some cs)
    (h : wpList Try.prog ops Q rest (a.put op.dst (.agg cs)) w) : wpList Try.prog ops Q (op :: rest) a w := by
  refine wpList_build hg t parts ho (by rw [hb]; rfl) ?_
  rw [hb]
  exact h
end

/-- A task that is read: the list of its tickets, the reader behind it, and behind all of it, with the State. -/
def taC (l : List Int) (A E : Int) : Nat := liC (tkI l) l (tkc l A E 4).2.1 (tkc l A E 4).2.2
def taL (l : List Int) (A E : Int) : List Int := liL (tkI l) l (tkc l A E 4).2.1 (tkc l A E 4).2.2
def taB (l : List Int) (A E : Int) : Int × Int := liF (tkI l) l (tkc l A E 4).2.1 (tkc l A E 4).2.2
def taE (l : List Int) (A E : Int) : Int × Int × Int := tkI l (taB l A E).1 (taB l A E).2
theorem taB_at (l : List Int) (A E : Int) (h0 : 0 ≤ A) (h1 : A ≤ l.length) : 0 ≤ (taB l A E).1 ∧ (taB l A E).1 ≤ l.length := by
  have h := tkc_at l A E h0 h1 4
  exact liF_at (fun A E h0 h1 => tkI_at l A E h0 h1) h.1 h.2
theorem taE_at (l : List Int) (A E : Int) (h0 : 0 ≤ A) (h1 : A ≤ l.length) : 0 ≤ (taE l A E).2.1 ∧ (taE l A E).2.1 ≤ l.length := by
  have h := taB_at l A E h0 h1
  exact tkI_at l _ _ h.1 h.2
theorem tkc_add (l : List Int) (A E : Int) (k : Nat) : ∀ j, tkc l (tkc l A E k).2.1 (tkc l A E k).2.2 j = tkc l A E (k + 1 + j)
  | 0 => rfl
  | j + 1 => by
    show tkI l (tkc l (tkc l A E k).2.1 (tkc l A E k).2.2 j).2.1 (tkc l (tkc l A E k).2.1 (tkc l A E k).2.2 j).2.2 = tkI l (tkc l A E (k + 1 + j)).2.1 (tkc l A E (k + 1 + j)).2.2
    rw [tkc_add l A E k j]
end Go.Proofs.Ytpkifcoichjnbaa

namespace Go.Proofs.Ytpkifcoichjnbaa
open Go.RowKit Go.Deep Go.Maps
set_option linter.unusedVariables false
set_option linter.unusedSimpArgs false

/-- A command that is read: its Kind, its numbers, and behind all of it. -/
def cmK (l : List Int) (A E : Int) : Int × Int × Int := upT l A E 9223372036854775807 4
def cmN (l : List Int) (A E : Int) (k : Nat) : Int × Int × Int := tkc l (cmK l A E).2.1 (cmK l A E).2.2 k
def cmC (l : List Int) (A E : Int) : Nat := taC l (cmN l A E 15).2.1 (cmN l A E 15).2.2
def cmL (l : List Int) (A E : Int) : List Int := taL l (cmN l A E 15).2.1 (cmN l A E 15).2.2
def cmE (l : List Int) (A E : Int) : Int × Int × Int := taE l (cmN l A E 15).2.1 (cmN l A E 15).2.2
theorem cmK_at (l : List Int) (A E : Int) (h0 : 0 ≤ A) (h1 : A ≤ l.length) : 0 ≤ (cmK l A E).2.1 ∧ (cmK l A E).2.1 ≤ l.length := upT_at l A E _ _ h0 h1
theorem cmK_bd (l : List Int) (A E : Int) (hb : BB l) : 0 ≤ (cmK l A E).1 ∧ (cmK l A E).1 ≤ 9223372036854775807 := upT_bd l A E _ _ hb (by omega)
theorem cmN_at (l : List Int) (A E : Int) (h0 : 0 ≤ A) (h1 : A ≤ l.length) (k : Nat) : 0 ≤ (cmN l A E k).2.1 ∧ (cmN l A E k).2.1 ≤ l.length := by
  have h := cmK_at l A E h0 h1
  exact tkc_at l _ _ h.1 h.2 k
theorem cmE_at (l : List Int) (A E : Int) (h0 : 0 ≤ A) (h1 : A ≤ l.length) : 0 ≤ (cmE l A E).2.1 ∧ (cmE l A E).2.1 ≤ l.length := by
  have h := cmN_at l A E h0 h1 15
  exact taE_at l _ _ h.1 h.2
theorem cmN_add (l : List Int) (A E : Int) (k j : Nat) : tkc l (cmN l A E k).2.1 (cmN l A E k).2.2 j = cmN l A E (k + 1 + j) := tkc_add l _ _ k j
theorem cmN_next (l : List Int) (A E : Int) (k : Nat) : tkI l (cmN l A E k).2.1 (cmN l A E k).2.2 = cmN l A E (k + 1) := rfl
theorem cmN_zero (l : List Int) (A E : Int) : tkI l (cmK l A E).2.1 (cmK l A E).2.2 = cmN l A E 0 := rfl
end Go.Proofs.Ytpkifcoichjnbaa

namespace Go.Proofs.Ytpkifcoichjnbaa
open Go.RowKit Go.Deep Go.Maps
set_option linter.unusedVariables false
set_option linter.unusedSimpArgs false

/-- An entry that is read: three numbers and a command. -/
def enN (l : List Int) (A E : Int) (k : Nat) : Int × Int × Int := cmN l (tkc l A E 2).2.1 (tkc l A E 2).2.2 k
def enK (l : List Int) (A E : Int) : Int := (cmK l (tkc l A E 2).2.1 (tkc l A E 2).2.2).1
def enC (l : List Int) (A E : Int) : Nat := cmC l (tkc l A E 2).2.1 (tkc l A E 2).2.2
def enL (l : List Int) (A E : Int) : List Int := cmL l (tkc l A E 2).2.1 (tkc l A E 2).2.2
def enE (l : List Int) (A E : Int) : Int × Int × Int := cmE l (tkc l A E 2).2.1 (tkc l A E 2).2.2
theorem enE_at (l : List Int) (A E : Int) (h0 : 0 ≤ A) (h1 : A ≤ l.length) : 0 ≤ (enE l A E).2.1 ∧ (enE l A E).2.1 ≤ l.length := by
  have h := tkc_at l A E h0 h1 2
  exact cmE_at l _ _ h.1 h.2
end Go.Proofs.Ytpkifcoichjnbaa

namespace Go.Proofs.Ytpkifcoichjnbaa
open Go.RowKit Go.Deep Go.Maps
set_option linter.unusedVariables false
set_option linter.unusedSimpArgs false

theorem alloc_row (w : World) (old cs : Array Value) (t : Nat) : (w.alloc (.cells old t)).setRow w.heap.size cs = w.alloc (.cells cs t) := by
  unfold World.setRow World.alloc
  simp only [World.mk.injEq, true_and, and_true]
  apply Array.ext_getElem?
  intro i
  simp only [Array.getElem?_modify, Array.getElem?_push]
  by_cases e : w.heap.size = i
  · subst e; simp
  · have e' : ¬ i = w.heap.size := fun h => e h.symm
    simp [e, e']
theorem Blk.loadAt {W : World} {Q t ty : Nat} {cs : Array Value} {d : TypeDesc} (h : Blk W Q t cs) (hu : Try.prog.underlying ty = some d) (hd : d.isRow = true) (hi : (Try.prog.info? ty).map (·.size) = some cs.size) : (Instr.loadAt ty (.pointer (some ⟨Q, 0, none⟩))).run Try.prog W = .ok (.agg cs) W := by
  simp only [Instr.loadAt, Instr.sureAddr, Sem.run_bind, Sem.run_pure, Result.andThen_ok, h.loadVar hu hd hi]
theorem Blk.other {W : World} {Q t q : Nat} {cs ds : Array Value} (h : Blk W Q t cs) (hq : Q ≠ q) : Blk (W.setRow q ds) Q t cs := (setRow_other W q Q ds hq).trans h
theorem Blk.cellO {W : World} {Q t : Nat} {cs : Array Value} (h : Blk W Q t cs) (a : Addr) (v : Value) (hq : Q ≠ a.block) : Blk (W.setCell a v) Q t cs := (Below.heap_setCell W a v Q hq).trans h
theorem RdC.put {W : World} {p : Nat} {b : Value} {A E : Int} (h : RdC W p b A E) (F : Int) : RdC (W.setCell ⟨p, 2, none⟩ (.int .i64 F)) p b A F := by
  obtain ⟨⟨h1, h2, h3⟩, f1, f2, f3⟩ := h
  refine ⟨⟨?_, ?_, ?_⟩, ?_, ?_, ?_⟩ <;> simp [go_sem, h1, h2, h3, f1, f2, f3]
theorem setRow_below {w W : World} {q : Nat} {cs : Array Value} (h : Below w.heap.size w W) (hq : w.heap.size ≤ q) : Below w.heap.size w (W.setRow q cs) :=
  ⟨h.os, h.tape, h.output, by simpa using h.size, fun b hb => (setRow_other W q b cs (by omega)).trans (h.block b hb)⟩
/-- A store of a whole row, among operations whose order is drawn. -/
theorem storeRow_step {ops : Array Oper} {o : Oper} {a : Act} {Q : Exit → Act → World → Prop} {K : Act → World → Prop} {wr : World} (hg : o.guard = none) (ty : TypeId) (x y : Operand) (hop : o.op = .store ty x y) (g : Nat) (cs : Array Value) (hx : a.eval x = .pointer (some ⟨g, 0, none⟩)) (hy : a.eval y = .agg cs)
    (t : TypeId) (old : Array Value) (hh : wr.heap[g]? = some (.cells old t (0, 0))) (hi : (Try.prog.info? ty).map (·.size) = some cs.size) (hold : old.size = cs.size) (h1 : cs.all (·.oneCell') = true)
    (hK : K (a.put o.dst undef) (wr.setRow g cs)) : if Region.wanted o (yielded ops a.tmps) = true then Oper.wp Try.prog o a wr K Q else K (a.put o.dst undef) wr := by
  rw [if_pos (by simp [Region.wanted, hg])]
  exact wp_store_row ty x y hop g cs hx hy t old hh hi hold h1 hK
theorem OwnE.cellO {α : Type} {e : TypeId} {k : Nat} {enc : α → List Value} {base n : Nat} {l : List α} {v : Value} {w : World} (h : OwnE e k enc base w v n l) (a : Addr) (u : Value) (h1 : a.block < base) : OwnE e k enc base (w.setCell a u) v n l := by
  obtain ⟨h0, h3, h4⟩ := h
  refine ⟨h0, h3, ?_⟩
  rcases h4 with h4 | ⟨g, cap, cur, hv, hg, hh, r⟩
  · exact .inl h4
  · exact .inr ⟨g, cap, cur, hv, hg, (Below.heap_setCell w a u g (by omega)).trans hh, r⟩

/-- An entry's cells, as it is read. -/
def enV (l : List Int) (A E : Int) (v : Value) : Array Value := #[.int .i64 (tkc l A E 0).1, .int .i64 (tkc l A E 1).1, .int .i64 (tkc l A E 2).1, .int .i64 (enK l A E), .int .i64 (enN l A E 0).1, .int .i64 (enN l A E 1).1, .int .i64 (enN l A E 2).1, .int .i64 (enN l A E 3).1, .int .i64 (enN l A E 4).1, .int .i64 (enN l A E 5).1, .int .i64 (enN l A E 6).1, .int .i64 (enN l A E 7).1, .int .i64 (enN l A E 8).1, .int .i64 (enN l A E 9).1, .int .i64 (enN l A E 10).1, .int .i64 (enN l A E 11).1, .int .i64 (enN l A E 12).1, .int .i64 (enN l A E 13).1, .int .i64 (enN l A E 14).1, .int .i64 (enN l A E 15).1, .int .i64 (enN l A E 16).1, .int .i64 (enN l A E 17).1, .int .i64 (enN l A E 18).1, .int .i64 (enN l A E 19).1, .int .i64 (enN l A E 20).1, v, .int .i64 (enE l A E).1]
/-- An entry that was read: its cells, its tickets in memory of its own. -/
def EnO (l : List Int) (A E : Int) (base : Nat) (W : World) (cs : Array Value) : Prop := ∃ v, cs = enV l A E v ∧ OwnN base W v (enC l A E) (enL l A E)
theorem EnO.below' {l : List Int} {A E : Int} {base : Nat} {W W' : World} {cs : Array Value} (h : EnO l A E base W cs) (hb : Below W.heap.size W W') : EnO l A E base W' cs := by
  obtain ⟨v, h1, h2⟩ := h; exact ⟨v, h1, h2.below hb⟩
theorem EnO.row {l : List Int} {A E : Int} {base q : Nat} {W : World} {cs : Array Value} (h : EnO l A E base W cs) (h1 : q < base) (ds : Array Value) : EnO l A E base (W.setRow q ds) cs := by
  obtain ⟨v, e, h2⟩ := h; exact ⟨v, e, h2.row h1 ds⟩
theorem EnO.weaken {l : List Int} {A E : Int} {base b' : Nat} {W : World} {cs : Array Value} (h : EnO l A E base W cs) (hb : b' ≤ base) : EnO l A E b' W cs := by
  obtain ⟨v, e, h2⟩ := h; exact ⟨v, e, h2.weaken hb⟩
end Go.Proofs.Ytpkifcoichjnbaa

namespace Go.Proofs.Ytpkifcoichjnbaa
open Go.RowKit Go.Deep Go.Maps
set_option linter.unusedVariables false
set_option linter.unusedSimpArgs false

section
variable {F : Fence} {n : Nat} {ops : Array Oper} {rest : List Oper} {op : Oper} {a : Act} {w : World} {Q : Exit → Act → World → Prop}
theorem wpListIn_load_at (ty : Nat) (hw : Region.wanted op (yielded ops a.tmps) = true) (x : Operand) (ho : op.op = .load ty x) (b o : Nat) (hx : a.eval x = .pointer (some ⟨b, o, none⟩)) (cs : Array Value) (hl : (Instr.loadAt ty (.pointer (some ⟨b, o, none⟩))).run Try.prog w = .ok (.agg cs) w)
    (h : wpListIn F n Try.prog ops Q rest (a.put op.dst (.agg cs)) w) : wpListIn F n Try.prog ops Q (op :: rest) a w := by
  refine Go.BigFrame.wpListIn_want hw fun _ hK => ⟨fun f hf => ?_, ?_⟩
  · simp [Oper.about, ho] at hf
  · rw [Oper.semAt_eq _ _ _ (by simp [ho])]
    unfold execOp
    simp only [ho, hx, Sem.run_bind, Sem.run_pure, hl, Result.andThen_ok]
    exact hK _ _ h
theorem wpListIn_store_new (hgd : op.guard = none) (ty : TypeId) (x y : Operand) (ho : op.op = .store ty x y) (cells : Array Value) (hx : a.eval x = .pointer (some ⟨w.heap.size, 0, none⟩)) (hy : a.eval y = .agg cells)
    (t : TypeId) (old : Array Value) (hi : (Try.prog.info? ty).map (·.size) = some cells.size) (hold : old.size = cells.size) (h1 : cells.all (·.oneCell') = true) (W : World) (hW : w.alloc (.cells cells t) = W)
    (h : wpListIn F n Try.prog ops Q rest (a.put op.dst undef) W) : wpListIn F n Try.prog ops Q (op :: rest) a (w.alloc (.cells old t)) := by
  subst hW
  rw [← alloc_row (old := old)] at h
  refine wpListIn_plain hgd fun _ hK => ⟨fun f hf => ?_, ?_⟩
  · simp [Oper.about, ho] at hf
  · rw [Oper.semAt_eq _ _ _ (by simp [ho])]
    unfold execOp
    simp only [ho, hx, hy, Instr.storeAt, Instr.sureAddr, Sem.run_bind, Sem.run_pure, Result.andThen_ok, run_storeVar_row (w.alloc (.cells old t)) w.heap.size t ty old cells (heap_alloc_new w _) hi hold h1]
    exact hK _ _ h
end

theorem wpIn_rangeFunc_y {F : Fence} {n : Nat} {P : Program} {g : Operand} {ps : Array Tmp} {assign body : Code} {Q : Exit → Act → World → Prop} {a : Act} {w : World}
    (hro : F.round = none) (h1 : 1 ≤ n) {gf : Nat} {lb : Array Value} (hg : a.eval g = .func (.func gf) #[] lb) (hFg : F.fn gf) (eg : ∀ args w, (callFunc gf args).run P w = .ok (.enter gf args) w)
    {N : Nat} {Rd : Nat → World → Prop} {Stp : Nat → Value → World → World → Prop} {Fin : World → World → Prop} (hT : TurnsX F (n - 1) P gf lb N Rd Stp Fin w) (hps : ps.size = 1)
    (I : Nat → World → Prop) (IM : Nat → Value → World → Prop) (IA : Nat → Value → Act → World → Prop) (IF : World → Prop) (hI : OwnFrom w.heap.size I) (hIM : ∀ x, OwnFrom w.heap.size (fun k => IM k x)) (hIA : ∀ x a, OwnFrom w.heap.size (fun k => IA k x a)) (hIF : OwnFrom w.heap.size (fun (_ : Nat) => IF)) (h0 : I 0 w) (hRd : ∀ k A, I k A → Rd k A)
    (hStp : ∀ k x A B, I k A → k < N → Stp k x A B → IM k x B) (hFin : ∀ A B, I N A → Fin A B → IF B)
    (hKeep : ∀ k x A B (i : Nat) (o : Obj), I k A → Stp k x A B → w.heap.size ≤ i → A.heap[i]? = some o → o.isCells = false → B.heap[i]? = some o)
    (hKeepF : ∀ A B (i : Nat) (o : Obj), I N A → Fin A B → w.heap.size ≤ i → A.heap[i]? = some o → o.isCells = false → B.heap[i]? = some o)
    (hassign : ∀ (l k : Nat) (x : Value) (W : World) (K : Act → World → Prop), IM k x W → k < N → (∀ a1 W1, IA k x a1 W1 → KeepsFrom w.heap.size W W1 → K a1 W1) → assign.wpIn (F.inRound l) (n - 1 - 1) P (Exit.then K (fun _ _ _ => False)) { tmps := (ps.zip #[x]).foldl (fun t (p, v) => t.setIfInBounds p v) a.tmps, defers := [] } W)
    (hbody : ∀ (l k : Nat) (x : Value) (a1 : Act) (W : World), IA k x a1 W → k < N → body.wpIn (F.inRound l) (n - 1 - 1) P (fun e _ W' => e = .normal ∧ KeepsFrom w.heap.size W W' ∧ I (k + 1) W') a1 W)
    (hdone : ∀ (D : Nat) (W : World), w.heap.size ≤ D → IF W → W.heap[D]? = some (.deferred (some [])) → Q .normal { a with defers := { target := .collected D, args := #[] } :: a.defers } W) :
    (Code.rangeFunc g ps assign body).wpIn F n P Q a w := by
  refine wpIn_rangeFunc (fun fn hfn => ?_)
  rw [hro]
  let rec' : LoopState → Loop := fun st => { state := st, pending := none, fn, tmps := a.tmps, params := ps, assign, body, defers := w.heap.size }
  obtain ⟨L, hL⟩ : ∃ L, w.heap.size + 1 = L := ⟨_, rfl⟩
  obtain ⟨W1, hW1⟩ : ∃ W1, (w.alloc (.deferred (some []))).alloc (.loop (rec' .ready)) = W1 := ⟨_, rfl⟩
  have bW : Below w.heap.size w W1 := by rw [← hW1]; exact ((Below.refl _ w).alloc (Nat.le_refl _) _).alloc (by simp) _
  have lW : W1.heap[L]? = some (.loop (rec' .ready)) := by
    rw [← hW1, ← hL]; have := World.alloc_heap_new (w.alloc (.deferred (some []))) (.loop (rec' .ready)); rwa [World.size_alloc] at this
  have dW : W1.heap[w.heap.size]? = some (.deferred (some [])) := by
    rw [← hW1]; exact (Below.heap_alloc _ _ _ (by simp)).trans (World.alloc_heap_new w _)
  have iW : I 0 W1 := by rw [← hW1]; exact hI.alloc _ (hI.alloc _ h0)
  let Bk : World → Prop := fun W => W.heap[L]? = some (.loop (rec' .ready)) ∧ W.heap[w.heap.size]? = some (.deferred (some []))
  refine ⟨L, [{ target := .collected w.heap.size, args := #[] }], W1, { target := .fn (.func gf) lb, args := #[.func (.yield L) #[] #[]] }, W1, gf, #[.func (.yield L) #[] #[]] ++ lb, W1, ?_, ?_, ?_, ?_, fun _ => h1, ?_⟩
  · rw [← hW1, ← hL]; exact run_enterLoop_outer _ _ _ _ _
  · simp only [resolve, hg]
    simp [go_sem]
  · intro f' hf'; simp [Target.leads] at hf'; subst hf'; exact hFg
  · simp [invoke, go_sem, eg]
  · refine (hT L (fun k W => I k W ∧ Bk W) (fun k x W => IM k x W ∧ Bk W) (fun W => IF W ∧ Bk W) W1 bW (fun k A h => hRd k A h.1) (fun k x A B h hk hs => ⟨hStp k x A B h.1 hk hs, hKeep k x A B _ _ h.1 hs (by omega) h.2.1 rfl, hKeep k x A B _ _ h.1 hs (Nat.le_refl _) h.2.2 rfl⟩)
      (fun A B h hs => ⟨hFin A B h.1 hs, hKeepF A B _ _ h.1 hs (by omega) h.2.1 rfl, hKeepF A B _ _ h.1 hs (Nat.le_refl _) h.2.2 rfl⟩) ?_ ⟨iW, lW, dW⟩).mono ?_
    · rintro k x W ⟨hi, hl, hd⟩ hk
      have hy := run_yield (P := P) (args := #[x]) hl (by simp [rec', hps])
      refine ⟨fn, _, assign, body, hy, roundIn_of_wpIn hfn (hassign _ k x W _ hi hk (fun a1 WA hia hka => ?_))⟩
      have hl := hka.same _ _ (by omega) hl rfl
      have hd := hka.same _ _ (Nat.le_refl _) hd rfl
      have hlt : L < WA.heap.size := (Array.getElem?_eq_some_iff.1 hl).1
      refine ⟨_, run_beginRound hl rfl, ?_⟩
      have l2 : (WA.putObj L (.loop { rec' .ready with state := .busy })).heap[L]? = some (.loop { rec' .ready with state := .busy }) := World.putObj_heap_same hlt
      have d2 : (WA.putObj L (.loop { rec' .ready with state := .busy })).heap[w.heap.size]? = some (.deferred (some [])) := (World.putObj_heap_other (by omega)).trans hd
      refine wpIn_mono (hbody L k x _ _ ((hIA x a1).putObj _ hia (by omega) hl rfl) hk) ?_
      rintro e a3 W3 ⟨rfl, hk3, hi3⟩
      have l3 := hk3.same _ _ (by omega) l2 rfl
      have d3 := hk3.same _ _ (Nat.le_refl _) d2 rfl
      refine ⟨_, _, run_endRound (P := P) none l3, rfl, hI.putObj _ hi3 (by omega) l3 rfl, ?_, ?_⟩
      · exact World.putObj_heap_same (Array.getElem?_eq_some_iff.1 l3).1
      · exact (World.putObj_heap_other (by omega)).trans d3
    · rintro e W2 ⟨⟨v, rfl⟩, hi, hl, hd⟩
      exact ⟨none, _, run_endLoop (P := P) hl (by simp [rec']), hdone _ _ (Nat.le_refl _) (hIF.putObj (s := (0 : Nat)) _ hi (by omega) hl rfl) ((World.putObj_heap_other (by omega)).trans hd)⟩
end Go.Proofs.Ytpkifcoichjnbaa

namespace Go.Proofs.Ytpkifcoichjnbaa
open Go.RowKit Go.Deep Go.Maps
set_option linter.unusedVariables false
set_option linter.unusedSimpArgs false

/-- A lease, with what its cores read as. -/
structure Le where
  ta : Int
  qu : Int
  no : Int
  sa : Option Addr
  sl : Nat
  sc : Nat
  me : Int
  si : Int
  un : Int
  st : Bool
  co : List Int
def Le.cs (x : Le) : List Value := [.int .i64 x.ta, .int .i64 x.qu, .int .i64 x.no, .slice x.sa x.sl x.sc, .int .i64 x.me, .int .i64 x.si, .int .i64 x.un, .bool x.st]
theorem Le.cs_len (x : Le) : x.cs.length = 8 := rfl
theorem Le.one (x : Le) : ∀ u ∈ x.cs, u.oneCell' = true := by
  intro u hu
  simp [Le.cs] at hu
  rcases hu with rfl | rfl | rfl | rfl | rfl | rfl | rfl | rfl <;> rfl
def le0 : Le := ⟨0, 0, 0, none, 0, 0, 0, 0, 0, false, []⟩
/-- What a list of leases reads as. -/
def HoldsL (w : World) (a : Option Addr) (len cap : Nat) (l : List Le) : Prop := HoldsE 8 Le.cs w a len cap l ∧ ∀ x ∈ l, HoldsN w x.sa x.sl x.sc x.co
theorem HoldsL.below {w w' : World} {a : Option Addr} {len cap : Nat} {l : List Le} (h : HoldsL w a len cap l) (hb : Below w.heap.size w w') : HoldsL w' a len cap l := ⟨h.1.below hb, fun x hx => (h.2 x hx).below hb⟩
def la (l : List Le) (i : Nat) : Le := l[i]?.getD le0
theorem la_get {l : List Le} {i : Nat} (h : i < l.length) : l[i]? = some (la l i) := by unfold la; rw [List.getElem?_eq_getElem h]; rfl
theorem la_mem {l : List Le} {i : Nat} (h : i < l.length) : la l i ∈ l := List.mem_of_getElem? (la_get h)
/-- A lease's cells. -/
def AtL (w : World) (b o : Nat) (x : Le) : Prop :=
  w.cell? ⟨b, o, none⟩ = some (.int .i64 x.ta) ∧ w.cell? ⟨b, o + 1, none⟩ = some (.int .i64 x.qu) ∧ w.cell? ⟨b, o + 2, none⟩ = some (.int .i64 x.no) ∧ w.cell? ⟨b, o + 3, none⟩ = some (.slice x.sa x.sl x.sc) ∧ w.cell? ⟨b, o + 4, none⟩ = some (.int .i64 x.me) ∧ w.cell? ⟨b, o + 5, none⟩ = some (.int .i64 x.si) ∧ w.cell? ⟨b, o + 6, none⟩ = some (.int .i64 x.un) ∧ w.cell? ⟨b, o + 7, none⟩ = some (.bool x.st)
theorem HoldsE.rowL {w : World} {a : Option Addr} {len cap : Nat} {l : List Le} (h : HoldsE 8 Le.cs w a len cap l) (hp : 0 < len) : ∃ b off, a = some ⟨b, off, none⟩ ∧ b < w.heap.size ∧ ∀ j, j < len → AtL w b (off + j * 8) (la l j) := by
  obtain ⟨h1, h2, h3, h4, h5⟩ := h
  obtain ⟨b, off, e, hlt, hc⟩ := h5 hp
  refine ⟨b, off, e, hlt, fun j hj => ?_⟩
  have hh := hc j _ (la_get (by omega))
  exact ⟨hh 0 _ rfl, hh 1 _ rfl, hh 2 _ rfl, hh 3 _ rfl, hh 4 _ rfl, hh 5 _ rfl, hh 6 _ rfl, hh 7 _ rfl⟩
/-- A block of numbers that reads as something lies among what is there. -/
theorem HoldsE.lt {α : Type} {k : Nat} {enc : α → List Value} {w : World} {b o len cap : Nat} {l : List α} (h : HoldsE k enc w (some ⟨b, o, none⟩) len cap l) (hp : 0 < len) : b < w.heap.size := by
  obtain ⟨h1, h2, h3, h4, h5⟩ := h
  obtain ⟨b', off, e, hlt, hc⟩ := h5 hp
  cases e
  exact hlt


section
open Go.ChangeShapes Go.WideShapes Go.ChangeAt
def Le.ok (x : Le) : Prop := I64 x.ta ∧ I64 x.no ∧ I64 x.me
def Le.okB (x : Le) : Prop := I64 x.qu ∧ I64 x.si ∧ I64 x.un
instance : Inhabited Le := ⟨le0⟩
variable {H : Type} {enc : TypeId × Value → H} {w : World} {base b0 : Nat} {spare : Nat → Bool} {held : Bool} {r : Reach} {v : Value} {d : DataW H} {p : List MemPlace} {fuel : Nat} {cs : List Value} {x : DataW H × List MemPlace}

theorem holds_ints {a : Addr} {len cap : Nat} {zs : List Int} (hl : len ≤ cap) (hm : cap ≤ maxLen) (hz : zs.length = cap) (hc : ∀ i, i < zs.length → w.cell? (a.add i) = some (.int .i64 (zs.getD i 0))) : HoldsN w (some a) len cap (zs.take len) := by
  unfold maxLen at hm
  refine ⟨by rw [List.length_take]; omega, hl, by omega, (fun e => by cases e), fun hp => ?_⟩
  have h0 := hc 0 (by omega)
  have hsp := cell_spot h0
  obtain ⟨b, o, s⟩ := a
  have hs : s = none := by
    cases s with
    | none => rfl
    | some y => simp [Addr.add] at hsp
  subst hs
  refine ⟨b, o, rfl, ?_, fun j y hy i u hu => ?_⟩
  · have := World.block_lt_of_cell? w _ h0
    simpa [Addr.add] using this
  · have hi : i = 0 := by
      have := (List.getElem?_eq_some_iff.1 hu).1
      simp [encN] at this
      exact this
    subst hi
    cases hu
    have hj := (List.getElem?_eq_some_iff.1 hy).1
    rw [List.length_take] at hj
    have h1 := hc j (by omega)
    rw [Addr.add_lit] at h1
    rw [Nat.mul_one, Nat.add_zero, h1]
    rw [List.getElem?_take_of_lt (by omega)] at hy
    rw [List.getD_eq_getElem?_getD, hy]
    rfl

theorem weights_mem_all {P : Program} {e : TypeId} : ∀ {ds : List (DataW H)} {d : DataW H}, d ∈ ds → ∀ n ∈ d.weights P e, n ∈ DataW.weightsAll P e ds := by
  intro ds
  induction ds with
  | nil => intro d hd; cases hd
  | cons y r ih =>
    intro d hd n hn
    unfold DataW.weightsAll
    rcases List.mem_cons.1 hd with rfl | hd
    · exact List.mem_append.2 (.inl hn)
    · exact List.mem_append.2 (.inr (ih hd n hn))

end

end Go.Proofs.Ytpkifcoichjnbaa

namespace Go.Proofs.Ytpkifcoichjnbaa
open Go.ChangeShapes Go.WideShapes Go.ChangeAt Go.RowKit Go.Deep
set_option linter.unusedVariables false
set_option linter.unusedSimpArgs false

/-- A queue, a node, a task, a hunger, by their numbers. -/
structure Q7 where
  a : Int
  b : Int
  c : Int
  d : Int
  e : Int
  f : Int
  g : Int
structure N5 where
  a : Int
  b : Int
  c : Int
  d : Int
  e : Int
structure T7 where
  t1 : Int
  t2 : Int
  c : Int
  m : Int
  wk : Int
  sa : Option Addr
  sl : Nat
  sc : Nat
  st : Int
  tk : List Int
structure H2 where
  a : Int
  b : Int
def Q7.cs (q : Q7) : List Value := [.int .i64 q.a, .int .i64 q.b, .int .i64 q.c, .int .i64 q.d, .int .i64 q.e, .int .i64 q.f, .int .i64 q.g]
def N5.cs (q : N5) : List Value := [.int .i64 q.a, .int .i64 q.b, .int .i64 q.c, .int .i64 q.d, .int .i64 q.e]
def T7.cs (q : T7) : List Value := [.int .i64 q.t1, .int .i64 q.t2, .int .i64 q.c, .int .i64 q.m, .int .i64 q.wk, .slice q.sa q.sl q.sc, .int .i64 q.st]
def H2.cs (q : H2) : List Value := [.int .i64 q.a, .int .i64 q.b]
def Q7.ok (q : Q7) : Prop := I64 q.a ∧ I64 q.b ∧ I64 q.c ∧ I64 q.d ∧ I64 q.e ∧ I64 q.f ∧ I64 q.g
def N5.ok (q : N5) : Prop := I64 q.a ∧ I64 q.b ∧ I64 q.c ∧ I64 q.d ∧ I64 q.e
def T7.ok (q : T7) : Prop := (I64 q.t1 ∧ I64 q.t2 ∧ I64 q.c ∧ I64 q.m ∧ I64 q.wk ∧ I64 q.st) ∧ ∀ x ∈ q.tk, I64 x
def H2.ok (q : H2) : Prop := I64 q.a ∧ I64 q.b

section
variable {H : Type} {enc : TypeId × Value → H} {w : World} {base b0 : Nat} {spare : Nat → Bool} {held : Bool} {r : Reach} {v : Value} {d : DataW H} {p : List MemPlace} {fuel : Nat} {cs : List Value} {x : DataW H × List MemPlace}
end
end Go.Proofs.Ytpkifcoichjnbaa

namespace Go.Proofs.Ytpkifcoichjnbaa
open Go.RowKit Go.Deep
set_option linter.unusedVariables false
set_option linter.unusedSimpArgs false

theorem rd_pre {l F pre suf : List Int} {x : Int} (hF : F = pre ++ (numB x ++ suf)) (hl : l <+: F) (x0 : 0 ≤ x) (x1 : x ≤ 18446744073709551615) (hp : pre.length ≤ l.length) :
    rd l pre.length = if pre.length + (1 + shelf x) ≤ l.length then (x, (pre.length : Int) + (1 + shelf x), 0) else (0, (l.length : Int), 5) := by
  by_cases h : pre.length + (1 + shelf x) ≤ l.length
  · rw [if_pos h]
    have h1 : pre ++ numB x <+: F := ⟨suf, by rw [hF, List.append_assoc]⟩
    obtain ⟨suf', e⟩ := List.prefix_of_prefix_length_le h1 hl (by simp [numB_len]; omega)
    rw [← e, List.append_assoc]
    exact rd_numB pre suf' x x0 x1
  · rw [if_neg h]
    unfold rd
    rw [if_neg (by omega)]
    by_cases he : pre.length = l.length
    · rw [if_pos (by omega)]
    · rw [if_neg (by omega)]
      have hg : l[((pre.length : Nat) : Int).toNat]?.getD 0 = (numB x)[0]?.getD 0 := by
        obtain ⟨t, e⟩ := hl
        have : F[pre.length]? = l[pre.length]? := by rw [← e, List.getElem?_append_left (by omega)]
        rw [Int.toNat_natCast, ← this, hF, List.getElem?_append_right (Nat.le_refl _), Nat.sub_self, List.getElem?_append_left (by rw [numB_len]; omega)]
      rw [hg]
      have hs : shelf x ≠ 0 := by intro e; omega
      have e1 : numB x = (191 + (shelf x : Int)) :: be (shelf x) (x - beg (shelf x)) := by unfold numB; rw [if_neg hs]
      have h0 : (numB x)[0]?.getD 0 = 191 + (shelf x : Int) := by rw [e1]; rfl
      have := shelf_le x
      rw [h0, if_neg (by omega), if_neg (by omega), if_pos (by omega)]

/-- The reader stands at a place of the whole, or has met the end of what there is. -/
def StR (l : List Int) (s : Int × Int) (p : Nat) : Prop := (s.2 = 0 ∧ s.1 = p ∧ p ≤ l.length) ∨ (s.2 = 5 ∧ s.1 = l.length ∧ l.length < p)
theorem tkI_keep {l : List Int} {A E : Int} (h : (tkI l A E).2.2 = 0) : E = 0 := by
  unfold tkI at h
  split at h
  · assumption
  · exact h
theorem upT_keep {l : List Int} {A E m f : Int} (hf : f ≠ 0) (h : (upT l A E m f).2.2 = 0) : E = 0 := by
  unfold upT at h
  split at h
  · assumption
  · exact h
theorem tkI_st {l F pre suf : List Int} {x : Int} {s : Int × Int} (hF : F = pre ++ (numB (zig x) ++ suf)) (hl : l <+: F) (hx : I64 x) (h : StR l s pre.length) :
    StR l (tkI l s.1 s.2).2 (pre ++ numB (zig x)).length ∧ ((tkI l s.1 s.2).2.2 = 0 → (tkI l s.1 s.2).1 = x) := by
  have z := zig_bd hx
  rcases h with ⟨h1, h2, h3⟩ | ⟨h1, h2, h3⟩
  · have e := rd_pre hF hl z.1 z.2 h3
    unfold tkI
    rw [if_pos h1, h2, e]
    split
    · refine ⟨.inl ⟨rfl, ?_, ?_⟩, fun _ => zag_zig x⟩
      · simp only [List.length_append, numB_len]; omega
      · simp only [List.length_append, numB_len]; omega
    · refine ⟨.inr ⟨rfl, rfl, ?_⟩, fun h => by simp at h⟩
      simp only [List.length_append, numB_len]; omega
  · unfold tkI
    rw [if_neg (by omega)]
    refine ⟨.inr ⟨h1, h2, ?_⟩, fun h => by simp only at h; omega⟩
    simp only [List.length_append]; omega
theorem upT_st {l F pre suf : List Int} {x m f : Int} {s : Int × Int} (hF : F = pre ++ (numB x ++ suf)) (hl : l <+: F) (x0 : 0 ≤ x) (x1 : x ≤ m) (hm : m ≤ 18446744073709551615) (h : StR l s pre.length) :
    StR l (upT l s.1 s.2 m f).2 (pre ++ numB x).length ∧ ((upT l s.1 s.2 m f).2.2 = 0 → (upT l s.1 s.2 m f).1 = x) ∧ ((upT l s.1 s.2 m f).2.2 ≠ 0 → (upT l s.1 s.2 m f).1 = 0) := by
  rcases h with ⟨h1, h2, h3⟩ | ⟨h1, h2, h3⟩
  · have e := rd_pre hF hl x0 (by omega) h3
    unfold upT
    rw [if_pos h1, h2, e]
    split
    · rw [if_neg (by show ¬ m < x; omega)]
      refine ⟨.inl ⟨rfl, ?_, ?_⟩, fun _ => rfl, fun h => absurd rfl h⟩
      · simp only [List.length_append, numB_len]; omega
      · simp only [List.length_append, numB_len]; omega
    · rw [if_neg (by show ¬ m < 0; omega)]
      refine ⟨.inr ⟨rfl, rfl, ?_⟩, fun h => by simp at h, fun _ => rfl⟩
      simp only [List.length_append, numB_len]; omega
  · unfold upT
    rw [if_neg (by omega)]
    refine ⟨.inr ⟨h1, h2, ?_⟩, fun h => by simp only at h; omega, fun _ => rfl⟩
    simp only [List.length_append]; omega

/-- Numbers one behind another. -/
theorem tkc_keep {l : List Int} {A E : Int} : ∀ (k j : Nat), j ≤ k → (tkc l A E k).2.2 = 0 → (tkc l A E j).2.2 = 0
  | 0, j, hj, h => by obtain rfl : j = 0 := by omega
                      exact h
  | k + 1, j, hj, h => by
    rcases Nat.eq_or_lt_of_le hj with e | e
    · subst e; exact h
    · exact tkc_keep k j (by omega) (tkI_keep h)
theorem bytesZ_take {xs : List Int} {k : Nat} (h : k < xs.length) : bytesZ xs = bytesZ (xs.take k) ++ (numB (zig xs[k]) ++ bytesZ (xs.drop (k + 1))) := by
  have e : xs = xs.take k ++ xs[k] :: xs.drop (k + 1) := by rw [← List.drop_eq_getElem_cons h, List.take_append_drop]
  conv => lhs; rw [e]
  rw [bytesZ_app]
  rfl
theorem tkc_st {l F pre suf xs : List Int} {A E : Int} (hF : F = pre ++ (bytesZ xs ++ suf)) (hl : l <+: F) (hx : ∀ x ∈ xs, I64 x) (h : StR l (A, E) pre.length) :
    ∀ k (hk : k < xs.length), StR l (tkc l A E k).2 (pre ++ bytesZ (xs.take (k + 1))).length ∧ ((tkc l A E k).2.2 = 0 → (tkc l A E k).1 = xs[k])
  | 0, hk => by
    have e := bytesZ_take hk
    have := tkI_st (s := (A, E)) (pre := pre) (suf := bytesZ (xs.drop 1) ++ suf) (x := xs[0]) (by rw [hF, e]; simp [bytesZ]) hl (hx _ (List.getElem_mem hk)) h
    refine ⟨?_, this.2⟩
    have e2 : bytesZ (xs.take (0 + 1)) = numB (zig xs[0]) := by rw [bytesZ_snoc hk, List.getElem?_eq_getElem hk]; rfl
    rw [e2]; exact this.1
  | k + 1, hk => by
    have ih := tkc_st hF hl hx h k (by omega)
    have e := bytesZ_take hk
    have := tkI_st (s := (tkc l A E k).2) (pre := pre ++ bytesZ (xs.take (k + 1))) (suf := bytesZ (xs.drop (k + 2)) ++ suf) (x := xs[k + 1]) (by rw [hF, e]; simp only [List.append_assoc]) hl (hx _ (List.getElem_mem hk)) ih.1
    refine ⟨?_, this.2⟩
    have e2 : bytesZ (xs.take (k + 1 + 1)) = bytesZ (xs.take (k + 1)) ++ numB (zig xs[k + 1]) := by rw [bytesZ_snoc hk, List.getElem?_eq_getElem hk]; rfl
    rw [e2, ← List.append_assoc]; exact this.1

section
variable {α : Type}
/-- A thing is read, if its bytes are there. -/
def ReadsAt (l F : List Int) (pe : Int → Int → α × Int × Int) (en : α → List Int) (x : α) : Prop :=
  ∀ (pre suf : List Int) (s : Int × Int), F = pre ++ (en x ++ suf) → StR l s pre.length → StR l (pe s.1 s.2).2 (pre ++ en x).length ∧ ((pe s.1 s.2).2.2 = 0 → (pe s.1 s.2).1 = x)
/-- A list, its count ahead. -/
def listE (en : α → List Int) (xs : List α) : List Int := numB (xs.length : Int) ++ xs.flatMap en
theorem flat_take {en : α → List Int} {xs : List α} {k : Nat} (h : k < xs.length) : xs.flatMap en = (xs.take k).flatMap en ++ (en xs[k] ++ (xs.drop (k + 1)).flatMap en) := by
  have e : xs = xs.take k ++ xs[k] :: xs.drop (k + 1) := by rw [← List.drop_eq_getElem_cons h, List.take_append_drop]
  conv => lhs; rw [e]
  rw [List.flatMap_append]
  rfl
theorem flat_snoc {en : α → List Int} {xs : List α} {k : Nat} (h : k < xs.length) : (xs.take (k + 1)).flatMap en = (xs.take k).flatMap en ++ en xs[k] := by
  rw [List.take_add_one, List.getElem?_eq_getElem h]
  simp only [Option.toList_some, List.flatMap_append, List.flatMap_cons, List.flatMap_nil, List.append_nil]
theorem lsS_st {l F pre suf : List Int} {pe : Int → Int → α × Int × Int} {en : α → List Int} {xs : List α} {A E : Int} (hF : F = pre ++ (xs.flatMap en ++ suf)) (hr : ∀ x ∈ xs, ReadsAt l F pe en x) (h : StR l (A, E) pre.length) :
    ∀ k, k ≤ xs.length → StR l (lsS pe A E k) (pre ++ (xs.take k).flatMap en).length
  | 0, _ => by simpa [lsS] using h
  | k + 1, hk => by
    have ih := lsS_st hF hr h k (by omega)
    have := (hr _ (List.getElem_mem (show k < xs.length by omega)) (pre ++ (xs.take k).flatMap en) ((xs.drop (k + 1)).flatMap en ++ suf) (lsS pe A E k) (by rw [hF, flat_take (show k < xs.length by omega)]; simp only [List.append_assoc]) ih).1
    rw [flat_snoc (by omega), ← List.append_assoc]
    exact this
theorem lsV_st {l F pre suf : List Int} {pe : Int → Int → α × Int × Int} {en : α → List Int} {xs : List α} {A E : Int} (hF : F = pre ++ (xs.flatMap en ++ suf)) (hr : ∀ x ∈ xs, ReadsAt l F pe en x) (h : StR l (A, E) pre.length)
    (k : Nat) (hk : k < xs.length) (he : (lsS pe A E (k + 1)).2 = 0) : lsV pe A E k = xs[k] := by
  have ih := lsS_st hF hr h k (by omega)
  exact (hr _ (List.getElem_mem hk) (pre ++ (xs.take k).flatMap en) ((xs.drop (k + 1)).flatMap en ++ suf) (lsS pe A E k) (by rw [hF, flat_take hk]; simp only [List.append_assoc]) ih).2 he
theorem li_st {l F pre suf : List Int} {pe : Int → Int → α × Int × Int} {en : α → List Int} {xs : List α} {s : Int × Int} (hF : F = pre ++ (listE en xs ++ suf)) (hl : l <+: F) (hr : ∀ x ∈ xs, ReadsAt l F pe en x) (hn : xs.length ≤ 1024) (h : StR l s pre.length) :
    StR l (liF pe l s.1 s.2) (pre ++ listE en xs).length ∧ ((liF pe l s.1 s.2).2 = 0 → liL pe l s.1 s.2 = xs) := by
  have hF' : F = pre ++ (numB (xs.length : Int) ++ (xs.flatMap en ++ suf)) := by rw [hF]; simp [listE, List.append_assoc]
  have hF2 : F = (pre ++ numB (xs.length : Int)) ++ (xs.flatMap en ++ suf) := by rw [hF']; simp [List.append_assoc]
  obtain ⟨u1, u2, u3⟩ := upT_st (f := 3) hF' hl (by omega) (show (xs.length : Int) ≤ 1024 by omega) (by omega) h
  unfold liF liL
  generalize hu : upT l s.1 s.2 1024 3 = U at *
  obtain ⟨c, A0, E0⟩ := U
  simp only at u1 u2 u3 ⊢
  have hlen : (pre ++ listE en xs).length = (pre ++ numB (xs.length : Int)).length + (xs.flatMap en).length := by simp [listE]; omega
  by_cases hE : E0 = 0
  · have hc := u2 hE
    subst hc
    have S := lsS_st hF2 hr u1
    have V := lsV_st hF2 hr u1
    have cl := lsC_le pe A0 E0 (xs.length : Int)
    rw [Int.toNat_natCast] at cl
    unfold lsF
    rw [Int.toNat_natCast]
    have NY := lsN_yes pe A0 E0 xs.length 0
    have NO := lsN_no pe A0 E0 xs.length 0
    have hC : lsC pe A0 E0 (xs.length : Int) = lsN pe A0 E0 xs.length 0 := rfl
    by_cases hlt : lsC pe A0 E0 (xs.length : Int) < xs.length
    · rw [if_pos hlt]
      have h1 := S (lsC pe A0 E0 (xs.length : Int) + 1) hlt
      have h2 : (lsS pe A0 E0 (lsC pe A0 E0 (xs.length : Int) + 1)).2 ≠ 0 := by rw [hC]; exact NO (by rw [hC] at hlt; omega)
      refine ⟨?_, fun h => absurd h h2⟩
      rcases h1 with ⟨e, _⟩ | ⟨e1, e2, e3⟩
      · exact absurd e h2
      · refine .inr ⟨e1, e2, ?_⟩
        have hm : ((xs.take (lsC pe A0 E0 (xs.length : Int) + 1)).flatMap en).length ≤ (xs.flatMap en).length := by
          conv => rhs; rw [← List.take_append_drop (lsC pe A0 E0 (xs.length : Int) + 1) xs, List.flatMap_append, List.length_append]
          omega
        rw [hlen]
        rw [List.length_append] at e3
        omega
    · have hce : lsC pe A0 E0 (xs.length : Int) = xs.length := by omega
      rw [if_neg hlt, hce]
      have h1 := S xs.length (Nat.le_refl _)
      rw [List.take_length, List.length_append] at h1
      rw [hlen]
      refine ⟨h1, fun h => ?_⟩
      unfold lsL
      rw [hce]
      apply List.ext_getElem
      · simp
      · intro k h1 h2
        simp only [List.getElem_map, List.getElem_range]
        exact V k h2 (NY k (by omega) (by rw [← hC, hce]; exact h2))
  · have hc := u3 hE
    subst hc
    have e0 : lsC pe A0 E0 0 = 0 := rfl
    unfold lsF
    rw [e0, if_neg (by simp)]
    refine ⟨?_, fun h => absurd h hE⟩
    rcases u1 with ⟨e, _⟩ | ⟨e1, e2, e3⟩
    · exact absurd e hE
    · refine .inr ⟨e1, e2, ?_⟩
      rw [hlen]; omega
end
theorem int_reads {l F : List Int} (hl : l <+: F) {x : Int} (hx : I64 x) : ReadsAt l F (tkI l) (fun x => numB (zig x)) x := fun pre suf s hF h => tkI_st hF hl hx h
theorem listZ_eq {l : List Int} (h : l.length ≤ 1024) : listZ l = listE (fun x => numB (zig x)) l := by
  unfold listZ listE bytesZ
  rw [if_neg (by omega)]
theorem lsN_keep {α : Type} {pe : Int → Int → α × Int × Int} (hk : ∀ A E, (pe A E).2.2 = 0 → E = 0) {A E : Int} : ∀ k, (lsS pe A E k).2 = 0 → E = 0
  | 0, h => h
  | k + 1, h => lsN_keep hk k (hk _ _ h)
theorem liF_keep {α : Type} {pe : Int → Int → α × Int × Int} (hk : ∀ A E, (pe A E).2.2 = 0 → E = 0) {l : List Int} {A E : Int} (h : (liF pe l A E).2 = 0) : E = 0 := by
  unfold liF lsF at h
  split at h
  · exact upT_keep (by omega) (lsN_keep hk _ h)
  · exact upT_keep (by omega) (lsN_keep hk _ h)

/-- A task. -/
theorem ta_st {l F pre suf : List Int} {t1 t2 c m wk st : Int} {tk : List Int} {A E : Int} (hF : F = pre ++ (taskZ t1 t2 c m wk tk st ++ suf)) (hl : l <+: F) (h1 : I64 t1) (h2 : I64 t2) (h3 : I64 c) (h4 : I64 m) (h5 : I64 wk) (h6 : I64 st) (h7 : ∀ x ∈ tk, I64 x) (hn : tk.length ≤ 1024) (h : StR l (A, E) pre.length) :
    StR l (taE l A E).2 (pre ++ taskZ t1 t2 c m wk tk st).length ∧ ((taE l A E).2.2 = 0 → ((tkc l A E 0).1 = t1 ∧ (tkc l A E 1).1 = t2 ∧ (tkc l A E 2).1 = c ∧ (tkc l A E 3).1 = m ∧ (tkc l A E 4).1 = wk) ∧ taL l A E = tk ∧ (taE l A E).1 = st ∧ E = 0) := by
  have T := tkc_st (pre := pre) (xs := [t1, t2, c, m, wk]) (suf := listZ tk ++ (bytesZ [st] ++ suf)) (by rw [hF]; unfold taskZ; simp only [List.append_assoc]) hl (by intro x hx; simp only [List.mem_cons, List.not_mem_nil, or_false] at hx; rcases hx with rfl | rfl | rfl | rfl | rfl <;> assumption) h
  have T4 := T 4 (by simp)
  have e5 : bytesZ (([t1, t2, c, m, wk] : List Int).take (4 + 1)) = bytesZ [t1, t2, c, m, wk] := rfl
  rw [e5] at T4
  have LI := li_st (pe := tkI l) (en := fun x => numB (zig x)) (xs := tk) (s := (tkc l A E 4).2) (pre := pre ++ bytesZ [t1, t2, c, m, wk]) (suf := bytesZ [st] ++ suf) (by rw [hF, ← listZ_eq hn]; unfold taskZ; simp only [List.append_assoc]) hl (fun x hx => int_reads hl (h7 x hx)) hn T4.1
  rw [← listZ_eq hn] at LI
  have ST := tkI_st (l := l) (F := F) (x := st) (s := taB l A E) (pre := pre ++ bytesZ [t1, t2, c, m, wk] ++ listZ tk) (suf := suf) (by rw [hF]; unfold taskZ; simp [List.append_assoc, bytesZ]) hl h6 LI.1
  have e6 : pre ++ bytesZ [t1, t2, c, m, wk] ++ listZ tk ++ numB (zig st) = pre ++ taskZ t1 t2 c m wk tk st := by unfold taskZ; simp [List.append_assoc, bytesZ]
  rw [e6] at ST
  refine ⟨ST.1, fun hz => ?_⟩
  have k1 : (taB l A E).2 = 0 := tkI_keep hz
  have k2 : (tkc l A E 4).2.2 = 0 := liF_keep (pe := tkI l) (fun _ _ h => tkI_keep h) k1
  refine ⟨⟨(T 0 (by simp)).2 (tkc_keep 4 0 (by omega) k2), (T 1 (by simp)).2 (tkc_keep 4 1 (by omega) k2), (T 2 (by simp)).2 (tkc_keep 4 2 (by omega) k2), (T 3 (by simp)).2 (tkc_keep 4 3 (by omega) k2), T4.2 k2⟩, LI.2 k1, ST.2 hz, ?_⟩
  exact tkI_keep (tkc_keep 4 0 (by omega) k2)
theorem cmN_keep {l : List Int} {A E : Int} {k j : Nat} (hj : j ≤ k) (h : (cmN l A E k).2.2 = 0) : (cmN l A E j).2.2 = 0 := tkc_keep k j hj h
/-- A command. -/
theorem cm_st {l F pre suf : List Int} {kd t1 t2 c m wk st : Int} {xs tk : List Int} {A E : Int} (hF : F = pre ++ (numB kd ++ (bytesZ xs ++ (taskZ t1 t2 c m wk tk st ++ suf)))) (hxl : xs.length = 16) (hl : l <+: F) (h0 : 0 ≤ kd) (h0' : kd ≤ 9223372036854775807) (hx : ∀ x ∈ xs, I64 x) (h1 : I64 t1) (h2 : I64 t2) (h3 : I64 c) (h4 : I64 m) (h5 : I64 wk) (h6 : I64 st) (h7 : ∀ x ∈ tk, I64 x) (hn : tk.length ≤ 1024) (h : StR l (A, E) pre.length) :
    StR l (cmE l A E).2 (pre ++ (numB kd ++ (bytesZ xs ++ taskZ t1 t2 c m wk tk st))).length ∧ ((cmE l A E).2.2 = 0 → (cmK l A E).1 = kd ∧ (∀ k (hk : k < xs.length), (cmN l A E k).1 = xs[k]) ∧ ((cmN l A E 16).1 = t1 ∧ (cmN l A E 17).1 = t2 ∧ (cmN l A E 18).1 = c ∧ (cmN l A E 19).1 = m ∧ (cmN l A E 20).1 = wk) ∧ cmL l A E = tk ∧ (cmE l A E).1 = st ∧ E = 0) := by
  have K := upT_st (f := 4) (s := (A, E)) hF hl h0 h0' (by omega) h
  have T := tkc_st (l := l) (F := F) (pre := pre ++ numB kd) (xs := xs) (suf := taskZ t1 t2 c m wk tk st ++ suf) (A := (cmK l A E).2.1) (E := (cmK l A E).2.2) (by rw [hF]; simp only [List.append_assoc]) hl hx K.1
  have T15 := T 15 (by omega)
  have e5 : bytesZ (xs.take (15 + 1)) = bytesZ xs := by rw [List.take_of_length_le (by omega)]
  rw [e5] at T15
  have TA := ta_st (l := l) (F := F) (pre := pre ++ numB kd ++ bytesZ xs) (suf := suf) (A := (cmN l A E 15).2.1) (E := (cmN l A E 15).2.2) (by rw [hF]; simp only [List.append_assoc]) hl h1 h2 h3 h4 h5 h6 h7 hn T15.1
  refine ⟨by have z := TA.1; simp only [List.append_assoc] at z; exact z, fun hz => ?_⟩
  obtain ⟨⟨a0, a1, a2, a3, a4⟩, b, d, e⟩ := TA.2 hz
  rw [cmN_add] at a0 a1 a2 a3 a4
  have e' : (cmN l A E 15).2.2 = 0 := e
  have k0 : (cmK l A E).2.2 = 0 := tkI_keep (cmN_keep (show 0 ≤ 15 by omega) e')
  exact ⟨K.2.1 k0, fun k hk => (T k hk).2 (cmN_keep (show k ≤ 15 by omega) e'), ⟨a0, a1, a2, a3, a4⟩, b, d, upT_keep (by omega) k0⟩
/-- An entry's bytes, by its numbers. -/
def entB (gs : List Int) (kd : Int) (xs : List Int) (t1 t2 c m wk : Int) (tk : List Int) (st : Int) : List Int := bytesZ gs ++ (numB kd ++ (bytesZ xs ++ taskZ t1 t2 c m wk tk st))
theorem en_st {l F suf : List Int} {kd t1 t2 c m wk st : Int} {gs xs tk : List Int} (hF : F = entB gs kd xs t1 t2 c m wk tk st ++ suf) (hal : gs.length = 3) (hxl : xs.length = 16) (hl : l <+: F) (ha : ∀ x ∈ gs, I64 x) (h0 : 0 ≤ kd) (h0' : kd ≤ 9223372036854775807) (hx : ∀ x ∈ xs, I64 x) (h1 : I64 t1) (h2 : I64 t2) (h3 : I64 c) (h4 : I64 m) (h5 : I64 wk) (h6 : I64 st) (h7 : ∀ x ∈ tk, I64 x) (hn : tk.length ≤ 1024) :
    StR l (enE l 0 0).2 (entB gs kd xs t1 t2 c m wk tk st).length ∧ ((enE l 0 0).2.2 = 0 → (∀ k (hk : k < gs.length), (tkc l 0 0 k).1 = gs[k]) ∧ enK l 0 0 = kd ∧ (∀ k (hk : k < xs.length), (enN l 0 0 k).1 = xs[k]) ∧ ((enN l 0 0 16).1 = t1 ∧ (enN l 0 0 17).1 = t2 ∧ (enN l 0 0 18).1 = c ∧ (enN l 0 0 19).1 = m ∧ (enN l 0 0 20).1 = wk) ∧ enL l 0 0 = tk ∧ (enE l 0 0).1 = st) := by
  have T := tkc_st (l := l) (F := F) (pre := []) (xs := gs) (suf := numB kd ++ (bytesZ xs ++ taskZ t1 t2 c m wk tk st) ++ suf) (A := 0) (E := 0) (by rw [hF]; unfold entB; simp only [List.append_assoc, List.nil_append]) hl ha (.inl ⟨rfl, rfl, by simp⟩)
  have T2 := T 2 (by omega)
  have e5 : bytesZ (gs.take (2 + 1)) = bytesZ gs := by rw [List.take_of_length_le (by omega)]
  rw [e5] at T2
  have C := cm_st (l := l) (F := F) (pre := [] ++ bytesZ gs) (suf := suf) (A := (tkc l 0 0 2).2.1) (E := (tkc l 0 0 2).2.2) (by rw [hF]; unfold entB; simp only [List.append_assoc, List.nil_append]) hxl hl h0 h0' hx h1 h2 h3 h4 h5 h6 h7 hn T2.1
  refine ⟨by have z := C.1; simp only [List.nil_append] at z; exact z, fun hz => ?_⟩
  obtain ⟨a, b, d, e, f, g⟩ := C.2 hz
  exact ⟨fun k hk => (T k hk).2 (tkc_keep 2 k (by omega) g), a, b, d, e, f⟩
end Go.Proofs.Ytpkifcoichjnbaa

namespace Go.Proofs.Ytpkifcoichjnbaa
open Go.RowKit Go.Deep Go.Maps
set_option linter.unusedVariables false
set_option linter.unusedSimpArgs false

/-- A list as it is written; whether a list that is too long is met in it. -/
def listW {α : Type} (en : α → List Int) (xs : List α) : List Int := if 1024 < xs.length then [] else listE en xs
def flW {α : Type} (fl : α → Bool) (xs : List α) : Bool := if 1024 < xs.length then true else xs.any fl
theorem any_snoc {α : Type} (fl : α → Bool) {xs : List α} {k : Nat} (h : k < xs.length) : (xs.take (k + 1)).any fl = ((xs.take k).any fl || fl xs[k]) := by
  rw [List.take_add_one, List.getElem?_eq_getElem h]
  simp only [Option.toList_some, List.any_append, List.any_cons, List.any_nil, Bool.or_false]
theorem flat_le {α : Type} {en : α → List Int} {M : Nat} : ∀ {xs : List α}, (∀ x ∈ xs, (en x).length ≤ M) → (xs.flatMap en).length ≤ xs.length * M
  | [], _ => by simp
  | x :: r, h => by
    have h1 := h x List.mem_cons_self
    have h2 := flat_le (xs := r) (fun y hy => h y (List.mem_cons_of_mem _ hy))
    rw [List.flatMap_cons, List.length_append, List.length_cons, Nat.succ_mul]; omega
theorem HoldsE.rangeAt {α : Type} {k : Nat} {enc : α → List Value} {w : World} {a : Option Addr} {len cap : Nat} {l : List α} (h : HoldsE k enc w a len cap l) (hp : 0 < len) : ∃ b off, a = some ⟨b, off, none⟩ ∧ b < w.heap.size ∧ ∀ j x, l[j]? = some x → w.rangeAt b (off + j * k) (enc x) := by
  obtain ⟨b, off, e, hlt, hc⟩ := h.2.2.2.2 hp
  exact ⟨b, off, e, hlt, fun j x hx i v hv => hc j x hx i v hv⟩
theorem rangeAt_below {w W : World} {b o : Nat} {cs : List Value} (h : w.rangeAt b o cs) (hb : Below w.heap.size w W) : W.rangeAt b o cs := fun j v hv => keepc hb (h j v hv)
end Go.Proofs.Ytpkifcoichjnbaa

namespace Go.Proofs.Ytpkifcoichjnbaa
open Go.RowKit Go.Deep
set_option linter.unusedVariables false
set_option linter.unusedSimpArgs false

/-- What is left as it was when bytes grow behind 'v'. -/
def PK (v : Value) (W W' : World) (v' : Value) : Prop := ∀ p, WK p v W W' v'
theorem PK.refl (v : Value) (W : World) : PK v W W v := fun p => WK.refl p v W
theorem PK.trans {v v1 v2 : Value} {A B C : World} (h : PK v A B v1) (k : PK v1 B C v2) : PK v A C v2 := fun p => (h p).trans (k p)
theorem PK.of_below {v : Value} {A B : World} (h : Below A.heap.size A B) : PK v A B v := fun p => WK.of_below h
theorem PK.of_grown {v v' : Value} {A B : World} (hg : A.grownBy B v.ownBlock) (hv : v'.ownBlock = v.ownBlock ∨ v'.ownBlock = some A.heap.size) : PK v A B v' := fun p =>
  ⟨hg.os, hg.tape, hg.output, hg.size, fun b hb _ h2 => hg.block b hb (fun e => h2 e.symm), fun g e => by
    rcases hv with hv | hv
    · exact .inl (hv ▸ e)
    · rw [hv] at e; cases e; exact .inr (Nat.le_refl _)⟩
theorem PK.cell {v v' : Value} {A B : World} (h : PK v A B v') {a : Addr} {u : Value} (hc : A.cell? a = some u) (h2 : v.ownBlock ≠ some a.block) : B.cell? a = some u :=
  (h (a.block + 1)).cell hc (by omega) h2
theorem PK.size {v v' : Value} {A B : World} (h : PK v A B v') : A.heap.size ≤ B.heap.size := WK.size (h 0)
theorem PK.below {v v' : Value} {A B : World} {base : Nat} (h : PK v A B v') (hb : base ≤ A.heap.size) (hv : ∀ g, v.ownBlock = some g → base ≤ g) : Below base A B :=
  ⟨(h 0).os, (h 0).tape, (h 0).output, (h 0).size, fun b hlt => (h (b + 1)).block b (by omega) (by omega) (fun e => by have := hv b e; omega)⟩

section
variable {ops : Array Oper} {rest : List Oper} {o : Oper} {a : Act} {Q : Exit → Act → World → Prop}
theorem cat_grow (wr : World) (hg : o.guard = none) (s y : Operand) (hop : o.op = Op.call { callee := Callee.builtin Builtin.append, args := #[s, y], argTypes := #[34, 34] })
    (base n : Nat) (v : Value) (l : List Int) (hs : a.eval s = v) (hown : Own base wr v n l) (hb : base ≤ wr.heap.size) (ao : Option Addr) (m c : Nat) (p : List Int) (hx : a.eval y = .slice ao m c) (hp : HoldsB wr ao m c p) (b1 : n + m ≤ 140737488355328)
    (hK : ∀ v' w', Own base w' v' (n + m) (l ++ p) → PK v wr w' v' → wpList Try.prog ops Q rest (a.put o.dst v') w') :
    wpList Try.prog ops Q (o :: rest) a wr := by
  refine wpList_plain hg fun K hk => ?_
  have h := appB_step (ops := ops) (Q := Q) (K := K) wr hg s y hop base n v l hs hown hb ao m c p hx hp b1 (fun v' w' h1 h2 h3 => hk _ _ (hK v' w' h1 (PK.of_grown h2 h3)))
  rwa [if_pos (by simp [Region.wanted, hg])] at h
end
end Go.Proofs.Ytpkifcoichjnbaa

namespace Go.Proofs.Ytpkifcoichjnbaa
open Go.RowKit Go.Deep
set_option linter.unusedVariables false
set_option linter.unusedSimpArgs false

theorem lit64 (W : World) (xs : List Int) (cs : Array Value) (hcs : cs.toList = xs.flatMap encN) (n : Nat) (hn : xs.length = n) (hxl : n ≤ 64) : HoldsN (W.alloc (.cells cs 2)) (some ⟨W.heap.size, 0, none⟩) n n xs := by
  subst hn
  refine ⟨rfl, Nat.le_refl _, by omega, (fun h => by cases h), fun _ => ⟨W.heap.size, 0, rfl, by simp, fun j x hx i u hu => ?_⟩⟩
  rw [Nat.zero_add, cell_of_row _ W.heap.size _ cs _ (0, 0) (heap_alloc_new W _), ← Array.getElem?_toList, hcs]
  exact flat_get encN_len xs j x i u hx hu
/-- The bytes of a list of numbers. -/
def numsZ (xs : List Int) : List Int := numB (xs.length : Int) ++ bytesZ xs
theorem numsZ_len (xs : List Int) : (numsZ xs).length ≤ 9 + 9 * xs.length := by
  have h1 := bytesZ_len xs
  have h2 := shelf_le (xs.length : Int)
  unfold numsZ
  rw [List.length_append, numB_len]; omega
end Go.Proofs.Ytpkifcoichjnbaa

namespace Go.Proofs.Ytpkifcoichjnbaa
open Go.RowKit Go.Deep
set_option linter.unusedVariables false
set_option linter.unusedSimpArgs false

theorem Box.pk {v v' : Value} {A B : World} {Q : Nat} {cs : Array Value} (h : Box A Q cs) (k : PK v A B v') (h2 : v.ownBlock ≠ some Q) : Box B Q cs :=
  fun i x e => k.cell (h i x e) h2
theorem nilO (base : Nat) (w : World) : Own base w (.slice none 0 0) ([] : List Int).length [] := ⟨World.ownsRow_nil _ _ _ _, BB.nil⟩
theorem listZ_nums {xs : List Int} (h : xs.length ≤ 1024) : listZ xs = numsZ xs := by unfold listZ numsZ; rw [if_neg (by omega)]

end Go.Proofs.Ytpkifcoichjnbaa

namespace Go.Proofs.Ytpkifcoichjnbaa
open Go.RowKit Go.Deep
set_option linter.unusedVariables false
set_option linter.unusedSimpArgs false

theorem Box.mid {W : World} {Q : Nat} {cs : Array Value} (h : Box W Q cs) (o n : Nat) (l : List Value) (e : (cs.toList.drop o).take n = l) : W.rangeAt Q o l :=
  fun j v hv => h (o + j) v (by
    subst e
    rw [List.getElem?_take] at hv
    split at hv
    · simpa using hv
    · cases hv)
section
variable {ops : Array Oper} {rest : List Oper} {op : Oper} {a : Act} {w : World} {Q : Exit → Act → World → Prop}
theorem row_alloc_set (w : World) (old cs : Array Value) (t : Nat) : (w.alloc (.cells old t)).setRow w.heap.size cs = w.alloc (.cells cs t) := by
  unfold World.setRow World.alloc
  simp only [World.mk.injEq, true_and, and_true]
  apply Array.ext_getElem?
  intro i
  simp only [Array.getElem?_modify, Array.getElem?_push]
  by_cases e : w.heap.size = i
  · subst e; simp
  · have e' : ¬ i = w.heap.size := fun h => e h.symm
    simp [e, e']
/-- The zero command. -/
def cmd0 : Array Value := #[.int .i64 0, .int .i64 0, .int .i64 0, .int .i64 0, .int .i64 0, .int .i64 0, .int .i64 0, .int .i64 0, .int .i64 0, .int .i64 0, .int .i64 0, .int .i64 0, .int .i64 0, .int .i64 0, .int .i64 0, .int .i64 0, .int .i64 0, .int .i64 0, .int .i64 0, .int .i64 0, .int .i64 0, .int .i64 0, .slice none 0 0, .int .i64 0]
end
end Go.Proofs.Ytpkifcoichjnbaa

namespace Go.Proofs.Ytpkifcoichjnbaa
open Go.RowKit Go.Deep Go.Maps
set_option linter.unusedVariables false
set_option linter.unusedSimpArgs false
end Go.Proofs.Ytpkifcoichjnbaa

namespace Go.Proofs.Ytpkifcoichjnbaa
open Go.RowKit Go.Deep Go.Maps
set_option linter.unusedVariables false
set_option linter.unusedSimpArgs false

/-- A flag's bytes. -/
def flagZ (b : Bool) : List Int := numB (if b then 1 else 0)
theorem flagZ_len (b : Bool) : (flagZ b).length ≤ 9 := by unfold flagZ; rw [numB_len]; have := shelf_le (if b then (1 : Int) else 0); omega
/-- A lease's bytes. -/
def leaseZ (a b c : Int) (tk : List Int) (d e f : Int) (g : Bool) : List Int := bytesZ [a, b, c] ++ (listZ tk ++ (bytesZ [d, e, f] ++ flagZ g))
theorem leaseZ_len (a b c : Int) (tk : List Int) (d e f : Int) (g : Bool) : (leaseZ a b c tk d e f g).length ≤ 9400 := by
  have h1 := bytesZ_len [a, b, c]
  have h2 := bytesZ_len [d, e, f]
  have h3 := listZ_len tk
  have h4 := flagZ_len g
  unfold leaseZ
  simp only [List.length_append, List.length_cons, List.length_nil] at *
  omega
end Go.Proofs.Ytpkifcoichjnbaa

namespace Go.Proofs.Ytpkifcoichjnbaa
open Go.RowKit Go.Deep Go.Maps
set_option linter.unusedVariables false
set_option linter.unusedSimpArgs false

/-- A lease, a task, a queue, a node, a hunger as they are written. -/
def leZ (x : Le) : List Int := leaseZ x.ta x.qu x.no x.co x.me x.si x.un x.st
def t7Z (x : T7) : List Int := taskZ x.t1 x.t2 x.c x.m x.wk x.tk x.st
def q7Z (x : Q7) : List Int := bytesZ [x.a, x.b, x.c, x.d, x.e, x.f, x.g]
def n5Z (x : N5) : List Int := bytesZ [x.a, x.b, x.c, x.d, x.e]
def h2Z (x : H2) : List Int := bytesZ [x.a, x.b]
def leL (x : Le) : Bool := decide (1024 < x.sl)
def t7L (x : T7) : Bool := decide (1024 < x.sl)
/-- All numbers of a lease. -/
def Le.okA (x : Le) : Prop := (I64 x.ta ∧ I64 x.qu ∧ I64 x.no ∧ I64 x.me ∧ I64 x.si ∧ I64 x.un) ∧ ∀ z ∈ x.co, I64 z
theorem leZ_len (x : Le) : (leZ x).length ≤ 9500 := by have := leaseZ_len x.ta x.qu x.no x.co x.me x.si x.un x.st; unfold leZ; omega
theorem t7Z_len (x : T7) : (t7Z x).length ≤ 9500 := by have := taskZ_len x.t1 x.t2 x.c x.m x.wk x.tk x.st; unfold t7Z; omega
theorem q7Z_len (x : Q7) : (q7Z x).length ≤ 63 := bytesZ_len _
theorem n5Z_len (x : N5) : (n5Z x).length ≤ 45 := bytesZ_len _
theorem h2Z_len (x : H2) : (h2Z x).length ≤ 18 := bytesZ_len _
theorem listW_len {α : Type} {en : α → List Int} {M : Nat} {xs : List α} (h : ∀ x, (en x).length ≤ M) : (listW en xs).length ≤ 9 + 1024 * M := by
  unfold listW
  split
  · simp
  · have h1 := flat_le (xs := xs) (fun x _ => h x)
    have h2 := shelf_le (xs.length : Int)
    have h3 : xs.length * M ≤ 1024 * M := Nat.mul_le_mul_right M (by omega)
    unfold listE
    rw [List.length_append, numB_len]; omega
theorem Q7.cs_len (x : Q7) : x.cs.length = 7 := rfl
theorem N5.cs_len (x : N5) : x.cs.length = 5 := rfl
theorem T7.cs_len (x : T7) : x.cs.length = 7 := rfl
theorem H2.cs_len (x : H2) : x.cs.length = 2 := rfl
theorem Q7.one (x : Q7) : ∀ u ∈ x.cs, u.oneCell' = true := by
  intro u hu; simp [Q7.cs] at hu; rcases hu with rfl | rfl | rfl | rfl | rfl | rfl | rfl <;> rfl
theorem N5.one (x : N5) : ∀ u ∈ x.cs, u.oneCell' = true := by
  intro u hu; simp [N5.cs] at hu; rcases hu with rfl | rfl | rfl | rfl | rfl <;> rfl
theorem T7.one (x : T7) : ∀ u ∈ x.cs, u.oneCell' = true := by
  intro u hu; simp [T7.cs] at hu; rcases hu with rfl | rfl | rfl | rfl | rfl | rfl | rfl <;> rfl
theorem H2.one (x : H2) : ∀ u ∈ x.cs, u.oneCell' = true := by
  intro u hu; simp [H2.cs] at hu; rcases hu with rfl | rfl <;> rfl
/-- Lists of leases, of tasks that came in. -/
def LeAll (w0 : World) (ls : List Le) : Prop := ∀ x ∈ ls, HoldsN w0 x.sa x.sl x.sc x.co ∧ x.okA
def TaAll (w0 : World) (ts : List T7) : Prop := ∀ x ∈ ts, HoldsN w0 x.sa x.sl x.sc x.tk ∧ x.ok
end Go.Proofs.Ytpkifcoichjnbaa

namespace Go.Proofs.Ytpkifcoichjnbaa
open Go.RowKit Go.Deep Go.Maps
set_option linter.unusedVariables false
set_option linter.unusedSimpArgs false
/-- Q7 as it is read. -/
def rdQ (l : List Int) (A E : Int) : Q7 × Int × Int := (⟨(tkc l A E 0).1, (tkc l A E 1).1, (tkc l A E 2).1, (tkc l A E 3).1, (tkc l A E 4).1, (tkc l A E 5).1, (tkc l A E 6).1⟩, (tkc l A E 6).2)
theorem rdQ_at (l : List Int) (A E : Int) (h0 : 0 ≤ A) (h1 : A ≤ l.length) : 0 ≤ (rdQ l A E).2.1 ∧ (rdQ l A E).2.1 ≤ l.length := tkc_at l A E h0 h1 6
/-- N5 as it is read. -/
def rdN (l : List Int) (A E : Int) : N5 × Int × Int := (⟨(tkc l A E 0).1, (tkc l A E 1).1, (tkc l A E 2).1, (tkc l A E 3).1, (tkc l A E 4).1⟩, (tkc l A E 4).2)
theorem rdN_at (l : List Int) (A E : Int) (h0 : 0 ≤ A) (h1 : A ≤ l.length) : 0 ≤ (rdN l A E).2.1 ∧ (rdN l A E).2.1 ≤ l.length := tkc_at l A E h0 h1 4
/-- H2 as it is read. -/
def rdH (l : List Int) (A E : Int) : H2 × Int × Int := (⟨(tkc l A E 0).1, (tkc l A E 1).1⟩, (tkc l A E 1).2)
theorem rdH_at (l : List Int) (A E : Int) (h0 : 0 ≤ A) (h1 : A ≤ l.length) : 0 ≤ (rdH l A E).2.1 ∧ (rdH l A E).2.1 ≤ l.length := tkc_at l A E h0 h1 1
end Go.Proofs.Ytpkifcoichjnbaa

namespace Go.Proofs.Ytpkifcoichjnbaa
open Go.RowKit Go.Deep Go.Maps
set_option linter.unusedVariables false
set_option linter.unusedSimpArgs false
attribute [local go_sem] Oper.semAt_some
attribute [local go_sem ↓] appF_eq

theorem addr_add0 (g j : Nat) : (⟨g, 0, none⟩ : Addr).add j = ⟨g, j, none⟩ := by
  rcases j with _ | j <;> simp [Addr.add]
theorem Blk.own {A B : World} {Q t : Nat} {cs : Array Value} {row : Option Nat} (h : Blk A Q t cs) (hg : A.grownBy B row) (hr : ∀ r, row = some r → ∃ o : Obj, A.heap[r]? = some o ∧ o.isCells = false) : Blk B Q t cs := by
  have h' : A.heap[Q]? = some (.cells cs t (0, 0)) := h
  refine (hg.block Q h.lt (fun e => ?_)).trans h
  obtain ⟨o, h1, h2⟩ := hr Q e.symm
  rw [h'] at h1
  cases h1
  simp [Obj.isCells] at h2
theorem wpIn_rangeFunc_z {F : Fence} {n : Nat} {P : Program} {g : Operand} {ps : Array Tmp} {assign body : Code} {Q : Exit → Act → World → Prop} {a : Act} {w : World}
    (hro : F.round = none) (h1 : 1 ≤ n) {gf : Nat} {lb : Array Value} (hg : a.eval g = .func (.func gf) #[] lb) (hFg : F.fn gf) (eg : ∀ args w, (callFunc gf args).run P w = .ok (.enter gf args) w)
    {N : Nat} {Rd : Nat → World → Prop} {Stp : Nat → Value → World → World → Prop} {Fin : World → World → Prop} (hT : TurnsX F (n - 1) P gf lb N Rd Stp Fin w) (hps : ps.size = 1)
    (I : Nat → World → Prop) (IM : Nat → Value → World → Prop) (IA : Nat → Value → Nat → World → Prop) (IF : World → Prop) (hI : OwnFrom w.heap.size I) (hIM : ∀ x, OwnFrom w.heap.size (fun k => IM k x)) (hIA : ∀ x b, OwnFrom w.heap.size (fun k => IA k x b)) (hIF : OwnFrom w.heap.size (fun (_ : Nat) => IF)) (h0 : I 0 w) (hRd : ∀ k A, I k A → Rd k A)
    (hStp : ∀ k x A B, I k A → k < N → Stp k x A B → IM k x B) (hFin : ∀ A B, I N A → Fin A B → IF B)
    (hKeep : ∀ k x A B (i : Nat) (o : Obj), I k A → Stp k x A B → w.heap.size ≤ i → A.heap[i]? = some o → o.isCells = false → B.heap[i]? = some o)
    (hKeepF : ∀ A B (i : Nat) (o : Obj), I N A → Fin A B → w.heap.size ≤ i → A.heap[i]? = some o → o.isCells = false → B.heap[i]? = some o)
    (a₁ : Nat → Value → Nat → Act)
    (hassign : ∀ (l k : Nat) (x : Value) (W : World) (K : Act → World → Prop), IM k x W → k < N → (∀ b W1, IA k x b W1 → KeepsFrom w.heap.size W W1 → K (a₁ k x b) W1) → assign.wpIn (F.inRound l) (n - 1 - 1) P (Exit.then K (fun _ _ _ => False)) { tmps := (ps.zip #[x]).foldl (fun t (p, v) => t.setIfInBounds p v) a.tmps, defers := [] } W)
    (hbody : ∀ (l k : Nat) (x : Value) (b : Nat) (W : World), IA k x b W → k < N → body.wpIn (F.inRound l) (n - 1 - 1) P (fun e _ W' => e = .normal ∧ KeepsFrom w.heap.size W W' ∧ I (k + 1) W') (a₁ k x b) W)
    (hdone : ∀ (D : Nat) (W : World), w.heap.size ≤ D → IF W → W.heap[D]? = some (.deferred (some [])) → Q .normal { a with defers := { target := .collected D, args := #[] } :: a.defers } W) :
    (Code.rangeFunc g ps assign body).wpIn F n P Q a w :=
  wpIn_rangeFunc_y hro h1 hg hFg eg hT hps I IM (fun k x a W => ∃ b, a = a₁ k x b ∧ IA k x b W) IF hI hIM (fun x a k A B row hs hgr hr => by obtain ⟨b, e, h⟩ := hs; exact ⟨b, e, hIA x b k A B row h hgr hr⟩) hIF h0 hRd hStp hFin hKeep hKeepF
    (fun l k x W K hi hk hK => hassign l k x W K hi hk (fun b W1 h1 h2 => hK _ _ ⟨b, rfl, h1⟩ h2))
    (fun l k x a1 W hi hk => by obtain ⟨b, rfl, h⟩ := hi; exact hbody l k x b W h hk) hdone

end Go.Proofs.Ytpkifcoichjnbaa

namespace Go.Proofs.Ytpkifcoichjnbaa
open Go.RowKit Go.Deep Go.Maps
set_option linter.unusedVariables false
set_option linter.unusedSimpArgs false

/-- A lease that is read: the list of its cores, the numbers behind it, the flag. -/
def rlC (l : List Int) (A E : Int) : Nat := liC (tkI l) l (tkc l A E 2).2.1 (tkc l A E 2).2.2
def rlL (l : List Int) (A E : Int) : List Int := liL (tkI l) l (tkc l A E 2).2.1 (tkc l A E 2).2.2
def rlB (l : List Int) (A E : Int) : Int × Int := liF (tkI l) l (tkc l A E 2).2.1 (tkc l A E 2).2.2
def rlN (l : List Int) (A E : Int) (k : Nat) : Int × Int × Int := tkc l (rlB l A E).1 (rlB l A E).2 k
def rlF (l : List Int) (A E : Int) : Int × Int × Int := upT l (rlN l A E 2).2.1 (rlN l A E 2).2.2 1 4
theorem rlB_at (l : List Int) (A E : Int) (h0 : 0 ≤ A) (h1 : A ≤ l.length) : 0 ≤ (rlB l A E).1 ∧ (rlB l A E).1 ≤ l.length := by
  have h := tkc_at l A E h0 h1 2
  exact liF_at (fun A E h0 h1 => tkI_at l A E h0 h1) h.1 h.2
theorem rlN_at (l : List Int) (A E : Int) (h0 : 0 ≤ A) (h1 : A ≤ l.length) (k : Nat) : 0 ≤ (rlN l A E k).2.1 ∧ (rlN l A E k).2.1 ≤ l.length := by
  have h := rlB_at l A E h0 h1
  exact tkc_at l _ _ h.1 h.2 k
theorem rlF_at (l : List Int) (A E : Int) (h0 : 0 ≤ A) (h1 : A ≤ l.length) : 0 ≤ (rlF l A E).2.1 ∧ (rlF l A E).2.1 ≤ l.length := by
  have h := rlN_at l A E h0 h1 2
  exact upT_at l _ _ 1 4 h.1 h.2
end Go.Proofs.Ytpkifcoichjnbaa

namespace Go.Proofs.Ytpkifcoichjnbaa
open Go.RowKit Go.Deep Go.Maps
set_option linter.unusedVariables false
set_option linter.unusedSimpArgs false
end Go.Proofs.Ytpkifcoichjnbaa

namespace Go.Proofs.Ytpkifcoichjnbaa
open Go.RowKit Go.Deep Go.Maps
set_option linter.unusedVariables false
set_option linter.unusedSimpArgs false

theorem Blk.box {W : World} {Q t : Nat} {cs : Array Value} (h : Blk W Q t cs) : Box W Q cs := fun i x e => by
  have h' : W.heap[Q]? = some (.cells cs t (0, 0)) := h
  simp [World.cell?, h', e]
section
variable {ops : Array Oper} {o : Oper} {a : Act} {w : World} {Q : Exit → Act → World → Prop} {K : Act → World → Prop}
theorem alloc_step (hg : o.guard = none) (ty : TypeId) (zs : Array Value) (ho : o.op = .alloc ty) (he : (Instr.alloc ty true (.tuple #[])).run Try.prog w = .ok (.pointer (some ⟨w.heap.size, 0, none⟩)) (w.alloc (.cells zs ty)))
    (hK : K (a.put o.dst (.pointer (some ⟨w.heap.size, 0, none⟩))) (w.alloc (.cells zs ty))) : if Region.wanted o (yielded ops a.tmps) = true then Oper.wp Try.prog o a w K Q else K (a.put o.dst undef) w := by
  rw [if_pos (by simp [Region.wanted, hg])]
  unfold Oper.wp execOp
  simp only [ho, Sem.run_bind, Sem.run_pure, he, Result.andThen_ok]
  exact hK
end
end Go.Proofs.Ytpkifcoichjnbaa

namespace Go.Proofs.Ytpkifcoichjnbaa
open Go.RowKit Go.Deep Go.Maps
set_option linter.unusedVariables false
set_option linter.unusedSimpArgs false
/-- Two leases, two tasks are alike, wherever their numbers lie. -/
def LeSame (x y : Le) : Prop := x.ta = y.ta ∧ x.qu = y.qu ∧ x.no = y.no ∧ x.sl = y.sl ∧ x.me = y.me ∧ x.si = y.si ∧ x.un = y.un ∧ x.st = y.st ∧ x.co = y.co
def TaSame (x y : T7) : Prop := x.t1 = y.t1 ∧ x.t2 = y.t2 ∧ x.c = y.c ∧ x.m = y.m ∧ x.wk = y.wk ∧ x.sl = y.sl ∧ x.st = y.st ∧ x.tk = y.tk
theorem rangeAt_drew {w : World} {b o : Nat} {cs : List Value} (h : w.rangeAt b o cs) : w.drew.rangeAt b o cs := h
end Go.Proofs.Ytpkifcoichjnbaa

namespace Go.Proofs.Ytpkifcoichjnbaa
open Go.RowKit Go.Deep Go.Maps
set_option linter.unusedVariables false
set_option linter.unusedSimpArgs false

theorem Blk.put {W : World} {Q t i : Nat} {cs : Array Value} (h : Blk W Q t cs) (v : Value) : Blk (W.setCell ⟨Q, i, none⟩ v) Q t (cs.setIfInBounds i v) := heap_setCell_same W Q i cs t v h
theorem Blk.boxD {W : World} {Q t : Nat} {cs : Array Value} (h : Blk W Q t cs) : Box W Q cs := fun i x e => by
  have h' : W.heap[Q]? = some (.cells cs t (0, 0)) := h
  simp [World.cell?, h', e]
theorem Blk.cellAt {W : World} {Q t : Nat} {cs : Array Value} (h : Blk W Q t cs) (i : Nat) (v : Value) (e : cs[i]? = some v) : W.cell? ⟨Q, i, none⟩ = some v := by
  have h' : W.heap[Q]? = some (.cells cs t (0, 0)) := h
  simp [World.cell?, h', e]
theorem Blk.froz {W : World} {Q t i : Nat} {cs : Array Value} (h : Blk W Q t cs) : W.frozen? ⟨Q, i, none⟩ = false := frozen_of_row W Q i cs t h
theorem Blk.there {W : World} {Q t : Nat} {cs : Array Value} (h : Blk W Q t cs) (o n : Nat) (hn : o + n ≤ cs.size) : W.there Q o n := fun j hj => by
  refine ⟨?_, h.froz⟩
  rw [h.cellAt (o + j) (cs[o + j]'(by omega)) (Array.getElem?_eq_getElem _)]
  rfl
/-- Values put into an array's places from o on. -/
def putL (cs : Array Value) : Nat → List Value → Array Value
  | _, [] => cs
  | o, v :: r => putL (cs.setIfInBounds o v) (o + 1) r
theorem Blk.cells {Q t : Nat} : ∀ (vs : List Value) (o : Nat) {W : World} {cs : Array Value} (h : Blk W Q t cs), Blk (W.setCells Q o vs) Q t (putL cs o vs)
  | [], _, _, _, h => h
  | v :: r, o, W, cs, h => by
    rw [World.setCells]
    exact Blk.cells r (o + 1) (h.put v)
theorem Blk.cellsO {Q t : Nat} : ∀ (vs : List Value) (o q : Nat) {W : World} {cs : Array Value} (h : Blk W Q t cs) (hq : Q ≠ q), Blk (W.setCells q o vs) Q t cs
  | [], _, _, _, _, h, _ => h
  | v :: r, o, q, W, cs, h, hq => by
    rw [World.setCells]
    exact Blk.cellsO r (o + 1) q (h.cellO ⟨q, o, none⟩ v hq) hq
theorem setCells_below {n : Nat} {w : World} : ∀ (vs : List Value) (o q : Nat) {W : World}, Below n w W → n ≤ q → Below n w (W.setCells q o vs)
  | [], _, _, _, h, _ => h
  | v :: r, o, q, W, h, hq => by
    rw [World.setCells]
    exact setCells_below r (o + 1) q (h.setCell (p := ⟨q, o, none⟩) hq v) hq
theorem OwnE.cellsO {α : Type} {e : TypeId} {k : Nat} {enc : α → List Value} {base n : Nat} {l : List α} {v : Value} : ∀ (vs : List Value) (o q : Nat) {w : World}, OwnE e k enc base w v n l → q < base → OwnE e k enc base (w.setCells q o vs) v n l
  | [], _, _, _, h, _ => h
  | u :: r, o, q, w, h, hq => by
    rw [World.setCells]
    exact OwnE.cellsO r (o + 1) q (h.cellO ⟨q, o, none⟩ u hq) hq
theorem encN_one : ∀ x, ∀ u ∈ encN x, u.oneCell' = true := by intro x u hu; simp [encN] at hu; subst hu; rfl

end Go.Proofs.Ytpkifcoichjnbaa

namespace Go.Proofs.Ytpkifcoichjnbaa
open Go.RowKit Go.Deep Go.Maps
set_option linter.unusedVariables false
set_option linter.unusedSimpArgs false
end Go.Proofs.Ytpkifcoichjnbaa

namespace Go.Proofs.Ytpkifcoichjnbaa
open Go.RowKit Go.Deep Go.Maps
set_option linter.unusedVariables false
set_option linter.unusedSimpArgs false

theorem Blk.boxE {W : World} {Q t : Nat} {cs : Array Value} (h : Blk W Q t cs) : Box W Q cs := fun i x e => by
  have h' : W.heap[Q]? = some (.cells cs t (0, 0)) := h
  simp [World.cell?, h', e]
end Go.Proofs.Ytpkifcoichjnbaa

namespace Go.Proofs.Ytpkifcoichjnbaa
open Go.RowKit Go.Deep Go.Maps
set_option linter.unusedVariables false
set_option linter.unusedSimpArgs false
theorem same_snoc {ls ls' : List Le} {k : Nat} {y : Le} (h : ∀ j (g1 : j < ls.length) (g2 : j < ls'.length), LeSame ls[j] ls'[j]) (hl : ls'.length = k) (hk : k < ls.length) (hy : LeSame ls[k] y) : ∀ j (g1 : j < ls.length) (g2 : j < (ls' ++ [y]).length), LeSame ls[j] (ls' ++ [y])[j] := fun j g1 g2 => by
  by_cases hj : j < ls'.length
  · rw [List.getElem_append_left hj]; exact h j g1 hj
  · have e : j = k := by rw [List.length_append] at g2; simp at g2; omega
    subst e
    rw [List.getElem_append_right (by omega)]
    simp only [hl, Nat.sub_self, List.getElem_cons_zero]
    exact hy

theorem OwnE.cellN {α : Type} {e : TypeId} {k : Nat} {enc : α → List Value} {base n : Nat} {l : List α} {v : Value} {w : World} (h : OwnE e k enc base w v n l) (a : Addr) (u : Value) (h1 : ∀ g, v.ownBlock = some g → g ≠ a.block) : OwnE e k enc base (w.setCell a u) v n l := by
  obtain ⟨h0, h3, h4⟩ := h
  refine ⟨h0, h3, ?_⟩
  rcases h4 with h4 | ⟨g, cap, cur, hv, hg, hh, r⟩
  · exact .inl h4
  · exact .inr ⟨g, cap, cur, hv, hg, (Below.heap_setCell w a u g (h1 g (by rw [hv]; rfl))).trans hh, r⟩
/-- Rows of two types lie in two blocks. -/
theorem own_ne {α β : Type} {e e' : TypeId} {k k' : Nat} {enc : α → List Value} {enc' : β → List Value} {base base' n n' : Nat} {l : List α} {l' : List β} {v v' : Value} {w : World} (h : OwnE e k enc base w v n l) (h' : OwnE e' k' enc' base' w v' n' l') (hne : e ≠ e') : ∀ g, v.ownBlock = some g → v'.ownBlock ≠ some g := fun g hg hg' => by
  rcases h.2.2 with ⟨rfl, _⟩ | ⟨b, cap, cur, rfl, _, hh, _⟩
  · simp [Value.ownBlock] at hg
  · rcases h'.2.2 with ⟨rfl, _⟩ | ⟨b', cap', cur', rfl, _, hh', _⟩
    · simp [Value.ownBlock] at hg'
    · simp [Value.ownBlock] at hg hg'
      subst hg hg'
      rw [hh] at hh'
      simp at hh'
      exact hne hh'.2
theorem OwnE.grownN {α : Type} {e : TypeId} {k : Nat} {enc : α → List Value} {base n : Nat} {l : List α} {v : Value} {w w' : World} (h : OwnE e k enc base w v n l) {row : Option Nat} (hg : w.grownBy w' row) (h1 : ∀ g, v.ownBlock = some g → row ≠ some g) : OwnE e k enc base w' v n l :=
  ⟨h.1, h.2.kept hg (by
    cases hv : v.ownBlock with
    | none => exact .inl rfl
    | some g => exact .inr (fun e => h1 g hv e.symm))⟩
end Go.Proofs.Ytpkifcoichjnbaa

namespace Go.Proofs.Ytpkifcoichjnbaa
open Go.RowKit Go.Deep Go.Maps
set_option linter.unusedVariables false
set_option linter.unusedSimpArgs false
attribute [local go_sem] Oper.semAt_some
attribute [local go_sem ↓] appF_eq

/-- A task, a lease as they are read: but for where their lists lie. -/
def rdT (l : List Int) (A E : Int) : T7 × Int × Int := (⟨(tkc l A E 0).1, (tkc l A E 1).1, (tkc l A E 2).1, (tkc l A E 3).1, (tkc l A E 4).1, none, taC l A E, 0, (taE l A E).1, taL l A E⟩, (taE l A E).2)
def rdL (l : List Int) (A E : Int) : Le × Int × Int := (⟨(tkc l A E 0).1, (tkc l A E 1).1, (tkc l A E 2).1, none, rlC l A E, 0, (rlN l A E 0).1, (rlN l A E 1).1, (rlN l A E 2).1, ((rlF l A E).1 == 1), rlL l A E⟩, (rlF l A E).2)
theorem rdT_at (l : List Int) (A E : Int) (h0 : 0 ≤ A) (h1 : A ≤ l.length) : 0 ≤ (rdT l A E).2.1 ∧ (rdT l A E).2.1 ≤ l.length := taE_at l A E h0 h1
theorem rdL_at (l : List Int) (A E : Int) (h0 : 0 ≤ A) (h1 : A ≤ l.length) : 0 ≤ (rdL l A E).2.1 ∧ (rdL l A E).2.1 ≤ l.length := rlF_at l A E h0 h1
end Go.Proofs.Ytpkifcoichjnbaa

namespace Go.Proofs.Ytpkifcoichjnbaa
open Go.RowKit Go.Deep Go.Maps
set_option linter.unusedVariables false
set_option linter.unusedSimpArgs false
end Go.Proofs.Ytpkifcoichjnbaa

namespace Go.Proofs.Ytpkifcoichjnbaa
open Go.RowKit Go.Deep Go.Maps
set_option linter.unusedVariables false
set_option linter.unusedSimpArgs false

/-- The error of what is too long. -/
def lngE (b : Bool) : Int := if b then 3 else 0
end Go.Proofs.Ytpkifcoichjnbaa

namespace Go.Proofs.Ytpkifcoichjnbaa
open Go.RowKit Go.Deep Go.Maps
set_option linter.unusedVariables false
set_option linter.unusedSimpArgs false

/-- Where the reader stands behind each part of an answer, of a state. -/
def anB (l : List Int) (A E : Int) : Int × Int := liF (tkI l) l (tkc l A E 2).2.1 (tkc l A E 2).2.2
def anE (l : List Int) (A E : Int) : Int × Int := liF (rdL l) l (anB l A E).1 (anB l A E).2
def s0B (l : List Int) (A E : Int) : Int × Int := (tkc l A E 2).2
def sQB (l : List Int) (A E : Int) : Int × Int := liF (rdQ l) l (s0B l A E).1 (s0B l A E).2
def sNB (l : List Int) (A E : Int) : Int × Int := liF (rdN l) l (sQB l A E).1 (sQB l A E).2
def sTB (l : List Int) (A E : Int) : Int × Int := liF (rdT l) l (sNB l A E).1 (sNB l A E).2
def sLB (l : List Int) (A E : Int) : Int × Int := liF (rdL l) l (sTB l A E).1 (sTB l A E).2
def sHB (l : List Int) (A E : Int) : Int × Int := liF (rdH l) l (sLB l A E).1 (sLB l A E).2
theorem s0B_at (l : List Int) (A E : Int) (h0 : 0 ≤ A) (h1 : A ≤ l.length) : 0 ≤ (s0B l A E).1 ∧ (s0B l A E).1 ≤ l.length := tkc_at l A E h0 h1 2
theorem anB_at (l : List Int) (A E : Int) (h0 : 0 ≤ A) (h1 : A ≤ l.length) : 0 ≤ (anB l A E).1 ∧ (anB l A E).1 ≤ l.length := by
  have h := tkc_at l A E h0 h1 2
  exact liF_at (fun A E h0 h1 => tkI_at l A E h0 h1) h.1 h.2
theorem anE_at (l : List Int) (A E : Int) (h0 : 0 ≤ A) (h1 : A ≤ l.length) : 0 ≤ (anE l A E).1 ∧ (anE l A E).1 ≤ l.length := by
  have h := anB_at l A E h0 h1
  exact liF_at (fun A E h0 h1 => rdL_at l A E h0 h1) h.1 h.2
theorem sQB_at (l : List Int) (A E : Int) (h0 : 0 ≤ A) (h1 : A ≤ l.length) : 0 ≤ (sQB l A E).1 ∧ (sQB l A E).1 ≤ l.length := by
  have h := s0B_at l A E h0 h1
  exact liF_at (fun A E h0 h1 => rdQ_at l A E h0 h1) h.1 h.2
theorem sNB_at (l : List Int) (A E : Int) (h0 : 0 ≤ A) (h1 : A ≤ l.length) : 0 ≤ (sNB l A E).1 ∧ (sNB l A E).1 ≤ l.length := by
  have h := sQB_at l A E h0 h1
  exact liF_at (fun A E h0 h1 => rdN_at l A E h0 h1) h.1 h.2
theorem sTB_at (l : List Int) (A E : Int) (h0 : 0 ≤ A) (h1 : A ≤ l.length) : 0 ≤ (sTB l A E).1 ∧ (sTB l A E).1 ≤ l.length := by
  have h := sNB_at l A E h0 h1
  exact liF_at (fun A E h0 h1 => rdT_at l A E h0 h1) h.1 h.2
theorem sLB_at (l : List Int) (A E : Int) (h0 : 0 ≤ A) (h1 : A ≤ l.length) : 0 ≤ (sLB l A E).1 ∧ (sLB l A E).1 ≤ l.length := by
  have h := sTB_at l A E h0 h1
  exact liF_at (fun A E h0 h1 => rdL_at l A E h0 h1) h.1 h.2
theorem sHB_at (l : List Int) (A E : Int) (h0 : 0 ≤ A) (h1 : A ≤ l.length) : 0 ≤ (sHB l A E).1 ∧ (sHB l A E).1 ≤ l.length := by
  have h := sLB_at l A E h0 h1
  exact liF_at (fun A E h0 h1 => rdH_at l A E h0 h1) h.1 h.2
end Go.Proofs.Ytpkifcoichjnbaa

namespace Go.Proofs.Ytpkifcoichjnbaa
open Go.RowKit Go.Deep Go.Maps
set_option linter.unusedVariables false
set_option linter.unusedSimpArgs false
end Go.Proofs.Ytpkifcoichjnbaa

namespace Go.Proofs.Ytpkifcoichjnbaa
open Go.RowKit Go.Deep Go.Maps
set_option linter.unusedVariables false
set_option linter.unusedSimpArgs false
theorem tkc_ls (l : List Int) (A E : Int) : ∀ k, tkc l A E k = (lsV (tkI l) A E k, lsS (tkI l) A E (k + 1))
  | 0 => rfl
  | k + 1 => by
    show tkI l (tkc l A E k).2.1 (tkc l A E k).2.2 = _
    rw [tkc_ls l A E k]
    rfl
/-- A number that stands, or none yet. -/
def nuV (l : List Int) (A E : Int) (k j : Nat) : Value := if j < k then .int .i64 (lsV (tkI l) A E j) else .int .i64 0
theorem nuV_set (l : List Int) (A E : Int) (k K : Nat) (h : k < K) : (((List.range K).map (nuV l A E k)).toArray).setIfInBounds k (.int .i64 (lsV (tkI l) A E k)) = ((List.range K).map (nuV l A E (k + 1))).toArray := by
  apply Array.ext_getElem?
  intro i
  rw [Array.getElem?_setIfInBounds]
  simp only [List.getElem?_toArray, List.getElem?_map, List.size_toArray, List.length_map, List.length_range]
  by_cases e : k = i
  · subst e
    rw [if_pos rfl, if_pos h, List.getElem?_range h]
    simp [nuV]
  · rw [if_neg e]
    by_cases hi : i < K
    · rw [List.getElem?_range hi]
      simp only [Option.map_some]
      congr 1
      unfold nuV
      by_cases h1 : i < k
      · rw [if_pos h1, if_pos (by omega)]
      · rw [if_neg h1, if_neg (by omega)]
    · rw [List.getElem?_eq_none (by simpa using hi)]; rfl
theorem nuV_at (l : List Int) (A E : Int) (k K j : Nat) (h : j < K) : (((List.range K).map (nuV l A E k)).toArray)[j]? = some (nuV l A E k j) := by
  simp [List.getElem?_range h]
theorem results_cell2 {fn : Func} {t x : Tmp} {ty : TypeId} (h : fn.results = #[.cell t ty, .tmp x]) {tmps : Array Value} {P : Program} {w : World} {a : Addr} {v : Value} (ht : tmps.getD t undef = .pointer (some a)) (hl : (loadVar ty a).run P w = .ok v w) : (results fn tmps).run P w = .ok (.tuple #[v, tmps.getD x undef]) w := by
  rw [Array.getD_eq_getD_getElem?] at ht
  simp [results, h, ht, asAddr, hl]
end Go.Proofs.Ytpkifcoichjnbaa

namespace Go.Proofs.Ytpkifcoichjnbaa
open Go.RowKit Go.Deep Go.Maps
set_option linter.unusedVariables false
set_option linter.unusedSimpArgs false
theorem Blk.low {W W' : World} {Q t base : Nat} {cs : Array Value} (h : Blk W Q t cs) (hb : Below base W W') (hq : Q < base) : Blk W' Q t cs := (hb.block Q hq).trans h
end Go.Proofs.Ytpkifcoichjnbaa

namespace Go.Proofs.Ytpkifcoichjnbaa
open Go.RowKit Go.Deep Go.Maps
set_option linter.unusedVariables false
set_option linter.unusedSimpArgs false
theorem results_cells2 {fn : Func} {t t' : Tmp} {ty ty' : TypeId} (h : fn.results = #[.cell t ty, .cell t' ty']) {tmps : Array Value} {P : Program} {w : World} {a a' : Addr} {v v' : Value} (ht : tmps.getD t undef = .pointer (some a)) (ht' : tmps.getD t' undef = .pointer (some a')) (hl : (loadVar ty a).run P w = .ok v w) (hl' : (loadVar ty' a').run P w = .ok v' w) : (results fn tmps).run P w = .ok (.tuple #[v, v']) w := by
  rw [Array.getD_eq_getD_getElem?] at ht ht'
  simp [results, h, ht, ht', asAddr, hl, hl']
set_option maxRecDepth 100000 in
theorem yieldsIf_build {ops : Array Oper} {S : World → Prop} {op : Oper} {a : Act} (hw : Region.wanted op (yielded ops a.tmps) = true) (t : TypeId) (parts : Array (Nat × Operand)) (ho : op.op = .build t parts) (cs : Array Value) (hb : Try.prog.built t (parts.map fun (i, x) => (i, a.eval x)).toList = some cs) : YieldsIf Try.prog ops S op (.agg cs) a :=
  .inl ⟨hw, fun w hw' => by
    have hr := run_build (P := Try.prog) w t _ cs hb
    unfold execOp
    simp only [ho, Sem.run_bind, Sem.run_pure, hr, Result.andThen_ok]⟩

end Go.Proofs.Ytpkifcoichjnbaa
