/-
  Contracts of queue: trees; a queue's children, yielded.
-/
import Derived.Test.YtdbkjcnanffibaaQC
import Derived.RangeFuncBox
namespace Go.Proofs.Ytdbkjcnanffibaa
open Go.RowKit Go.Deep Go.Maps Go.Shelf
set_option linter.unusedVariables false
attribute [local go_sem] Oper.semAt_some

/-- A tree's value. -/
abbrev tv (lb off len cap mb : Nat) : Value := .agg #[.slice (some ⟨lb, off, none⟩) len cap, .map (some mb)]
/-- A tree in memory. -/
structure Tree (w : World) (lb off len cap mb : Nat) (l : List Qu) : Prop where
  hlen : l.length = len
  hle : len ≤ 64
  hcap : len ≤ cap
  form : Form l
  ok : ∀ q ∈ l, q.ok
  row : RowQ w lb off l
  map : PlM w mb len l
theorem Tree.pos {w : World} {lb off len cap mb : Nat} {l : List Qu} (h : Tree w lb off len cap mb l) : 0 < len := by rw [← h.hlen]; exact h.form.1
theorem Tree.below {w w' : World} {lb off len cap mb : Nat} {l : List Qu} (h : Tree w lb off len cap mb l) (hb : Below w.heap.size w w') : Tree w' lb off len cap mb l :=
  ⟨h.hlen, h.hle, h.hcap, h.form, h.ok, h.row.below hb, h.map.below hb⟩
theorem Tree.same {w w' : World} {lb off len cap mb : Nat} {l : List Qu} (h : Tree w lb off len cap mb l) (h1 : w'.heap[lb]? = w.heap[lb]?) (h2 : w'.heap[mb]? = w.heap[mb]?) : Tree w' lb off len cap mb l :=
  ⟨h.hlen, h.hle, h.hcap, h.form, h.ok, h.row.same h1, h.map.same h2⟩

/-- What the rounds keep: all below N but X, and all maps. -/
def Kq (X N : Nat) (W W' : World) : Prop := KeepsWalks W W' ∧ ∀ b, b < N → b ≠ X → W'.heap[b]? = W.heap[b]?
theorem kq_t {X N : Nat} {A B C : World} (h : Kq X N A B) (k : Kq X N B C) : Kq X N A C :=
  ⟨⟨Nat.le_trans h.1.size k.1.size, fun i o hi ho => k.1.same i o (h.1.same i o hi ho) ho⟩, fun b hb hx => (k.2 b hb hx).trans (h.2 b hb hx)⟩
theorem kq_b {X N : Nat} {w : World} (hN : N ≤ w.heap.size) (W : World) (l : Nat) (o o' : Obj) (hl : w.heap.size ≤ l) (h : W.heap[l]? = some o) (h1 : o.isCells = false) (h2 : o.isWalk = false) : Kq X N W (W.putObj l o') := by
  refine ⟨⟨by simp, fun i q hi hq => ?_⟩, fun b hb hx => World.putObj_heap_other (by omega)⟩
  have : i ≠ l := fun e => by subst e; rw [h] at hi; cases hi; rw [h2] at hq; cases hq
  rw [World.putObj_heap_other (by omega)]; exact hi
theorem kq_refl (X N : Nat) (W : World) : Kq X N W W := ⟨⟨Nat.le_refl _, fun _ _ h _ => h⟩, fun _ _ _ => rfl⟩
theorem kq_below {X N : Nat} {W W' : World} (h : Below W.heap.size W W') (hN : N ≤ W.heap.size) : Kq X N W W' :=
  ⟨⟨h.size, fun i o hi ho => (h.block i (Array.getElem?_eq_some_iff.1 hi).1).trans hi⟩, fun b hb _ => h.block b (by omega)⟩

/-- The same below N but X. -/
def Sm (X N : Nat) (W W' : World) : Prop := W.heap.size ≤ W'.heap.size ∧ ∀ b, b < N → b ≠ X → W'.heap[b]? = W.heap[b]?
theorem Sm.refl (X N : Nat) (W : World) : Sm X N W W := ⟨Nat.le_refl _, fun _ _ _ => rfl⟩
theorem Sm.kq {X N : Nat} {A B C : World} (h : Sm X N A B) (k : Kq X N B C) : Sm X N A C := ⟨Nat.le_trans h.1 k.1.size, fun b hb hx => (k.2 b hb hx).trans (h.2 b hb hx)⟩
theorem Sm.alloc {X N : Nat} {A B : World} (h : Sm X N A B) (hN : N ≤ A.heap.size) (o : Obj) : Sm X N A (B.alloc o) :=
  ⟨by have := h.1; simp; omega, fun b hb hx => (Below.heap_alloc _ _ _ (by have := h.1; omega)).trans (h.2 b hb hx)⟩
theorem Sm.below {X N : Nat} {A B C : World} (h : Sm X N A B) (hN : N ≤ A.heap.size) (k : Below B.heap.size B C) : Sm X N A C :=
  ⟨Nat.le_trans h.1 k.size, fun b hb hx => (k.block b (by have := h.1; omega)).trans (h.2 b hb hx)⟩
theorem Sm.cell {X N : Nat} {A B : World} (h : Sm X N A B) {b o : Nat} (hb : b < N) (hx : b ≠ X) : B.cell? ⟨b, o, none⟩ = A.cell? ⟨b, o, none⟩ := World.cell?_of_block (w := A) (h.2 b hb hx)

/-- A place of a list. -/
abbrev encF (l : List Qu) (x : Fin l.length) : Array Value := #[.int .i64 (x.val : Int)]
/-- The places of the first k. -/
def upF (l : List Qu) (k : Nat) : List (Fin l.length) := (List.finRange l.length).take k
theorem upF_succ {l : List Qu} {k : Nat} (h : k < l.length) : upF l (k + 1) = upF l k ++ [⟨k, h⟩] := by
  unfold upF
  rw [List.take_succ_eq_append_getElem (by simpa using h)]
  simp
theorem upF_all (l : List Qu) : upF l l.length = List.finRange l.length := by unfold upF; rw [List.take_of_length_le (by simp)]
theorem upF_zero (l : List Qu) : upF l 0 = [] := rfl
theorem upF_pre (l : List Qu) (k : Nat) : upF l k <+: List.finRange l.length := List.take_prefix _ _

/-- The children's places among the first k. -/
def kidsTo (l : List Qu) (id : Int) (k : Nat) : List (Fin l.length) := (upF l k).filter (fun i => decide ((qa l i).par = id))
def kids (l : List Qu) (id : Int) : List (Fin l.length) := (List.finRange l.length).filter (fun i => decide ((qa l i).par = id))
theorem kidsTo_all (l : List Qu) (id : Int) : kidsTo l id l.length = kids l id := by unfold kidsTo kids; rw [upF_all]
theorem kidsTo_yes {l : List Qu} {id : Int} {k : Nat} (h : k < l.length) (e : (qa l k).par = id) : kidsTo l id (k + 1) = kidsTo l id k ++ [⟨k, h⟩] := by
  unfold kidsTo; rw [upF_succ h, List.filter_append]; simp [e]
theorem kidsTo_no {l : List Qu} {id : Int} {k : Nat} (h : k < l.length) (e : ¬ (qa l k).par = id) : kidsTo l id (k + 1) = kidsTo l id k := by
  unfold kidsTo; rw [upF_succ h, List.filter_append]; simp [e]
theorem kidsTo_pre (l : List Qu) (id : Int) (k : Nat) : kidsTo l id k <+: kids l id := (upF_pre l k).filter _
theorem kidsTo_lt {l : List Qu} {id : Int} {k : Nat} (h : k < l.length) (e : (qa l k).par = id) : (kidsTo l id k).length < (kids l id).length := by
  have := (kidsTo_pre l id (k + 1)).length_le
  rw [kidsTo_yes h e] at this
  simp at this
  omega

set_option maxHeartbeats 1000000 in
theorem children_mk (lb off len cap mb : Nat) (id : Int) (w : World) :
    Calls Try.prog 68 #[tv lb off len cap mb, .int .i64 id] w fun e w' => e = .returned (.func (.func 83) #[] #[.pointer (some ⟨w.heap.size, 0, none⟩), .pointer (some ⟨w.heap.size + 1, 0, none⟩)]) ∧ (w.alloc (.cells #[.slice (some ⟨lb, off, none⟩) len cap, .map (some mb)] 73)).alloc (.cells #[.int .i64 id] 3) = w' := by
  go_enter Try.func68, Try.ntmps68
  go_wp2
  go_ret
  exact ⟨rfl, rfl⟩

set_option maxRecDepth 100000 in
set_option maxHeartbeats 2000000 in
theorem children_stops (n : Nat) (hn : 1 ≤ n) (X N Bt Bi lb off len cap mb : Nat) (l : List Qu) (id : Int) (w : World) (hT : Tree w lb off len cap mb l)
    (ct : w.cell? ⟨Bt, 0, none⟩ = some (.slice (some ⟨lb, off, none⟩) len cap)) (ci : w.cell? ⟨Bi, 0, none⟩ = some (.int .i64 id))
    (n1 : Bt < N) (n2 : Bi < N) (n3 : lb < N) (x1 : Bt ≠ X) (x2 : Bi ≠ X) (x3 : lb ≠ X) (hN : N ≤ w.heap.size) :
    SeqStopsK Fence.wide n Try.prog 83 #[.pointer (some ⟨Bt, 0, none⟩), .pointer (some ⟨Bi, 0, none⟩)] (encF l) (Kq X N) (fun xs => xs = kids l id) (fun pre => pre ≠ [] ∧ pre <+: kids l id) (kids l id).length w := fun lp J Jx W hW hJ hJx hY hj => by
  have hNW : N ≤ W.heap.size := Nat.le_trans hN hW.size
  have ct' : W.cell? ⟨Bt, 0, none⟩ = some (.slice (some ⟨lb, off, none⟩) len cap) := (hW.cell (p := ⟨Bt, 0, none⟩) (by show Bt < _; omega)).trans ct
  have ci' : W.cell? ⟨Bi, 0, none⟩ = some (.int .i64 id) := (hW.cell (p := ⟨Bi, 0, none⟩) (by show Bi < _; omega)).trans ci
  have HT := hid (hT.below hW)
  clear hT ct ci
  have CI := hid ci'
  clear ci'
  have hle := HT.out.hle
  have hcap := HT.out.hcap
  refine callsIn_of_wp Try.func83 rfl trivial ?_ rfl
  simp only [Try.ntmps83, List.size_toArray, List.length_cons, List.length_nil, Nat.reduceAdd, Nat.reduceSub, Array.replicate_succ, Array.replicate_zero, List.push_toArray, List.append_toArray, List.nil_append, List.cons_append]
  gi_wp2
  gi_loopw [9] (fun i wr => ∃ k : Nat, k ≤ len ∧ i = .int .i64 k ∧ Hid (J (kidsTo l id k) wr) ∧ Hid (Sm X N W wr)) (fun i _ => len - (intOf i).toNat)
  case atStart => exact ⟨0, by omega, rfl, hj, Sm.refl _ _ _⟩
  case round =>
    obtain ⟨k, hk, rfl, hJs, hS⟩ := hrel
    clear ct'
    by_cases hlt : k < len
    · have hlt' : k < l.length := by rw [HT.out.hlen]; exact hlt
      have hA := ((HT.out.row).same (w' := wr) (hS.out.2 lb n3 x3)).2 k hlt'
      obtain ⟨c0, c1, c2, c3, c4, c5, c6⟩ := hA
      have ci := (hS.out.cell (o := 0) n2 x2).trans CI.out
      have hbi : Bi < wr.heap.size := by have := hS.out.1; omega
      have ci2 := fun o => keepc ((Below.refl _ wr).alloc (Nat.le_refl _) o) ci
      have J2 : ∀ o, J (kidsTo l id k) (wr.alloc o) := fun o => hJ _ _ _ none hJs.out (World.grownBy_alloc _ _ _) (fun r e => by cases e)
      have JJ := hid J2
      clear J2
      by_cases hp : (qa l k).par = id
      · have tp : ((qa l k).par == id) = true := by simpa using hp
        have K1 := hid (kidsTo_yes hlt' hp)
        have K2 := kidsTo_lt hlt' hp
        have K3 := hid (kidsTo_pre l id (k + 1))
        clear hp
        generalize qa l k = q at *
        obtain ⟨q1, q2, q3, q4, q5, q6, q7⟩ := q
        simp only at *
        have ci3 := ci2 (.cells #[.int .i64 q1, .int .i64 q2, .int .i64 q3, .int .i64 q4, .int .i64 q5, .int .i64 q6, .int .i64 q7] 53)
        clear ci2 ci
        obtain ⟨fn, tmps, assign, body, hy, hR⟩ := hY (kidsTo l id k) ⟨k, hlt'⟩ (wr.alloc (.cells #[.int .i64 q1, .int .i64 q2, .int .i64 q3, .int .i64 q4, .int .i64 q5, .int .i64 q6, .int .i64 q7] 53)) (JJ.out _) K2
        dsimp only [encF] at hy
        have HR := hid hR
        clear hR
        gi_wp2
        refine HR.out.mono ?_
        rintro e W3 (⟨rfl, hJ3, hk3⟩ | ⟨rfl, hx3⟩)
        · have S3 := hid ((hS.out.alloc hNW (.cells #[.int .i64 q1, .int .i64 q2, .int .i64 q3, .int .i64 q4, .int .i64 q5, .int .i64 q6, .int .i64 q7] 53)).kq hk3)
          have J3 := hid hJ3
          clear hJ3 hk3
          gi_wp2
          go_roundw
          case rel => exact ⟨k + 1, by omega, by go_num, by rw [K1.out]; exact J3.out, S3⟩
          case measure => simp [intOf]; omega
        · have X3 := hid hx3
          clear hx3
          gi_wp2
          refine bodyPost_ret (results_none rfl _ _ _) rfl ?_
          exact ⟨⟨_, rfl⟩, .inr ⟨_, ⟨by simp, by rw [← K1.out]; exact K3.out⟩, X3.out⟩⟩
      · have tp : ((qa l k).par == id) = false := by simpa using hp
        have K1 := hid (kidsTo_no hlt' hp)
        clear hp
        generalize qa l k = q at *
        obtain ⟨q1, q2, q3, q4, q5, q6, q7⟩ := q
        simp only at *
        have ci3 := ci2 (.cells #[.int .i64 q1, .int .i64 q2, .int .i64 q3, .int .i64 q4, .int .i64 q5, .int .i64 q6, .int .i64 q7] 53)
        clear ci2 ci
        gi_wp2
        refine ⟨fun _ h => (by cases h), ?_⟩
        gi_wp2
        go_roundw
        case rel => exact ⟨k + 1, by omega, by go_num, by rw [K1.out]; exact JJ.out _, hS.out.alloc hNW _⟩
        case measure => simp [intOf]; omega
    · have E : Hid (kidsTo l id k = kids l id) := by have e : k = l.length := (by rw [HT.out.hlen]; omega)
                                                     unfold Hid; rw [e]; exact kidsTo_all l id
      gi_wp2
      go_end0
      exact ⟨⟨_, rfl⟩, .inl ⟨_, E.out, hJs.out⟩⟩

end Go.Proofs.Ytdbkjcnanffibaa
