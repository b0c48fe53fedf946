/-
  Contracts of queue: trees; a queue's children, yielded.
-/
import Derived.Test.YtikalkigmnipiaaQC
import Derived.RangeFuncBox
namespace Go.Proofs.Ytikalkigmnipiaa
open Go.RowKit Go.Deep Go.Maps Go.Shelf
set_option linter.unusedVariables false
attribute [local go_sem] Oper.semAt_some

/-- A tree's value. -/
abbrev tv (lb off len cap mb : Nat) : Value := .agg #[.slice (some ⟨lb, off, none⟩) len cap, .map (some mb)]
/-- A tree in memory. -/
structure Tree (w : World) (lb off len cap mb : Nat) (l : List Qu) : Prop where
  hlen : l.length = len
  hle : len ≤ 64
  hcap : len ≤ cap
  form : Form l
  ok : ∀ q ∈ l, q.ok
  row : RowQ w lb off l
  map : PlM w mb len l
theorem Tree.pos {w : World} {lb off len cap mb : Nat} {l : List Qu} (h : Tree w lb off len cap mb l) : 0 < len := by rw [← h.hlen]; exact h.form.1
theorem Tree.below {w w' : World} {lb off len cap mb : Nat} {l : List Qu} (h : Tree w lb off len cap mb l) (hb : Below w.heap.size w w') : Tree w' lb off len cap mb l :=
  ⟨h.hlen, h.hle, h.hcap, h.form, h.ok, h.row.below hb, h.map.below hb⟩
theorem Tree.same {w w' : World} {lb off len cap mb : Nat} {l : List Qu} (h : Tree w lb off len cap mb l) (h1 : w'.heap[lb]? = w.heap[lb]?) (h2 : w'.heap[mb]? = w.heap[mb]?) : Tree w' lb off len cap mb l :=
  ⟨h.hlen, h.hle, h.hcap, h.form, h.ok, h.row.same h1, h.map.same h2⟩

/-- What the rounds keep: all below N but X, and all maps. -/
def Kq (X N : Nat) (W W' : World) : Prop := KeepsWalks W W' ∧ ∀ b, b < N → b ≠ X → W'.heap[b]? = W.heap[b]?
theorem kq_t {X N : Nat} {A B C : World} (h : Kq X N A B) (k : Kq X N B C) : Kq X N A C :=
  ⟨⟨Nat.le_trans h.1.size k.1.size, fun i o hi ho => k.1.same i o (h.1.same i o hi ho) ho⟩, fun b hb hx => (k.2 b hb hx).trans (h.2 b hb hx)⟩
theorem kq_b {X N : Nat} {w : World} (hN : N ≤ w.heap.size) (W : World) (l : Nat) (o o' : Obj) (hl : w.heap.size ≤ l) (h : W.heap[l]? = some o) (h1 : o.isCells = false) (h2 : o.isWalk = false) : Kq X N W (W.putObj l o') := by
  refine ⟨⟨by simp, fun i q hi hq => ?_⟩, fun b hb hx => World.putObj_heap_other (by omega)⟩
  have : i ≠ l := fun e => by subst e; rw [h] at hi; cases hi; rw [h2] at hq; cases hq
  rw [World.putObj_heap_other (by omega)]; exact hi
theorem kq_refl (X N : Nat) (W : World) : Kq X N W W := ⟨⟨Nat.le_refl _, fun _ _ h _ => h⟩, fun _ _ _ => rfl⟩
theorem kq_below {X N : Nat} {W W' : World} (h : Below W.heap.size W W') (hN : N ≤ W.heap.size) : Kq X N W W' :=
  ⟨⟨h.size, fun i o hi ho => (h.block i (Array.getElem?_eq_some_iff.1 hi).1).trans hi⟩, fun b hb _ => h.block b (by omega)⟩

/-- The same below N but X. -/
def Sm (X N : Nat) (W W' : World) : Prop := W.heap.size ≤ W'.heap.size ∧ ∀ b, b < N → b ≠ X → W'.heap[b]? = W.heap[b]?
theorem Sm.refl (X N : Nat) (W : World) : Sm X N W W := ⟨Nat.le_refl _, fun _ _ _ => rfl⟩
theorem Sm.kq {X N : Nat} {A B C : World} (h : Sm X N A B) (k : Kq X N B C) : Sm X N A C := ⟨Nat.le_trans h.1 k.1.size, fun b hb hx => (k.2 b hb hx).trans (h.2 b hb hx)⟩
theorem Sm.alloc {X N : Nat} {A B : World} (h : Sm X N A B) (hN : N ≤ A.heap.size) (o : Obj) : Sm X N A (B.alloc o) :=
  ⟨by have := h.1; simp; omega, fun b hb hx => (Below.heap_alloc _ _ _ (by have := h.1; omega)).trans (h.2 b hb hx)⟩
theorem Sm.below {X N : Nat} {A B C : World} (h : Sm X N A B) (hN : N ≤ A.heap.size) (k : Below B.heap.size B C) : Sm X N A C :=
  ⟨Nat.le_trans h.1 k.size, fun b hb hx => (k.block b (by have := h.1; omega)).trans (h.2 b hb hx)⟩
theorem Sm.cell {X N : Nat} {A B : World} (h : Sm X N A B) {b o : Nat} (hb : b < N) (hx : b ≠ X) : B.cell? ⟨b, o, none⟩ = A.cell? ⟨b, o, none⟩ := World.cell?_of_block (w := A) (h.2 b hb hx)

/-- A place of a list. -/
abbrev encF (l : List Qu) (x : Fin l.length) : Array Value := #[.int .i64 (x.val : Int)]
/-- The places of the first k. -/
def upF (l : List Qu) (k : Nat) : List (Fin l.length) := (List.finRange l.length).take k
theorem upF_succ {l : List Qu} {k : Nat} (h : k < l.length) : upF l (k + 1) = upF l k ++ [⟨k, h⟩] := by
  unfold upF
  rw [List.take_succ_eq_append_getElem (by simpa using h)]
  simp
theorem upF_all (l : List Qu) : upF l l.length = List.finRange l.length := by unfold upF; rw [List.take_of_length_le (by simp)]
theorem upF_zero (l : List Qu) : upF l 0 = [] := rfl
theorem upF_pre (l : List Qu) (k : Nat) : upF l k <+: List.finRange l.length := List.take_prefix _ _

/-- The children's places among the first k. -/
def kidsTo (l : List Qu) (id : Int) (k : Nat) : List (Fin l.length) := (upF l k).filter (fun i => decide ((qa l i).par = id))
def kids (l : List Qu) (id : Int) : List (Fin l.length) := (List.finRange l.length).filter (fun i => decide ((qa l i).par = id))
theorem kidsTo_all (l : List Qu) (id : Int) : kidsTo l id l.length = kids l id := by unfold kidsTo kids; rw [upF_all]
theorem kidsTo_yes {l : List Qu} {id : Int} {k : Nat} (h : k < l.length) (e : (qa l k).par = id) : kidsTo l id (k + 1) = kidsTo l id k ++ [⟨k, h⟩] := by
  unfold kidsTo; rw [upF_succ h, List.filter_append]; simp [e]
theorem kidsTo_no {l : List Qu} {id : Int} {k : Nat} (h : k < l.length) (e : ¬ (qa l k).par = id) : kidsTo l id (k + 1) = kidsTo l id k := by
  unfold kidsTo; rw [upF_succ h, List.filter_append]; simp [e]
theorem kidsTo_pre (l : List Qu) (id : Int) (k : Nat) : kidsTo l id k <+: kids l id := (upF_pre l k).filter _
theorem kidsTo_lt {l : List Qu} {id : Int} {k : Nat} (h : k < l.length) (e : (qa l k).par = id) : (kidsTo l id k).length < (kids l id).length := by
  have := (kidsTo_pre l id (k + 1)).length_le
  rw [kidsTo_yes h e] at this
  simp at this
  omega

end Go.Proofs.Ytikalkigmnipiaa
