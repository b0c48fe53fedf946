/-
  Slices of things of several cells each: what they read as, what a call owns, append; lists of queues; the map of places.
-/
import Derived.Test.YtikalkigmnipiaaQA
import Derived.Test.YtikalkigmnipiaaOpenS
import Derived.OwnWalk
import Derived.OwnWalkIn
import Derived.Laws.AppendOwnNone
import Derived.Maps.OwnIn
import Derived.Maps.OwnOps
import Derived.BigQuiet
namespace Go.Proofs.Ytikalkigmnipiaa
open Go.RowKit Go.Deep Go.Maps
set_option linter.unusedVariables false

section
variable {α : Type} {k : Nat} {enc : α → List Value}

theorem flat_len (hk : ∀ x, (enc x).length = k) (l : List α) : (l.flatMap enc).length = l.length * k := by
  induction l with
  | nil => simp
  | cons x l ih => simp only [List.flatMap_cons, List.length_append, ih, hk, List.length_cons, Nat.succ_mul]; omega
theorem flat_get (hk : ∀ x, (enc x).length = k) : ∀ (l : List α) (j : Nat) (x : α) (i : Nat) (v : Value), l[j]? = some x → (enc x)[i]? = some v → (l.flatMap enc)[j * k + i]? = some v := by
  intro l
  induction l with
  | nil => intro j x i v h; simp at h
  | cons y l ih =>
    intro j x i v h hv
    have hi : i < k := by have := (List.getElem?_eq_some_iff.1 hv).1; rw [hk] at this; exact this
    rw [List.flatMap_cons]
    cases j with
    | zero =>
      simp at h
      subst h
      rw [List.getElem?_append_left (by rw [hk]; omega)]
      simpa using hv
    | succ j =>
      rw [List.getElem?_append_right (by rw [hk, Nat.succ_mul]; omega), hk]
      rw [show (j + 1) * k + i - k = j * k + i by rw [Nat.succ_mul]; omega]
      exact ih j x i v (by simpa using h) hv
theorem flat_inv (hk : ∀ x, (enc x).length = k) : ∀ (l : List α) (p : Nat) (u : Value), (l.flatMap enc)[p]? = some u → ∃ j x i, p = j * k + i ∧ l[j]? = some x ∧ (enc x)[i]? = some u := by
  intro l
  induction l with
  | nil => intro p u h; simp at h
  | cons y l ih =>
    intro p u h
    rw [List.flatMap_cons] at h
    rcases Nat.lt_or_ge p k with hp | hp
    · rw [List.getElem?_append_left (by rw [hk]; omega)] at h
      exact ⟨0, y, p, by omega, rfl, h⟩
    · rw [List.getElem?_append_right (by rw [hk]; omega), hk] at h
      obtain ⟨j, x, i, e, hx, hu⟩ := ih _ _ h
      exact ⟨j + 1, x, i, by rw [Nat.succ_mul]; omega, by simpa using hx, hu⟩

/-- What a slice of things of k cells each reads as. -/
def HoldsE (k : Nat) (enc : α → List Value) (w : World) (a : Option Addr) (len cap : Nat) (l : List α) : Prop :=
  l.length = len ∧ len ≤ cap ∧ cap ≤ 9223372036854775807 ∧ (a = none → len = 0 ∧ cap = 0) ∧
  (0 < len → ∃ b off, a = some ⟨b, off, none⟩ ∧ b < w.heap.size ∧ ∀ j x, l[j]? = some x → ∀ i v, (enc x)[i]? = some v → w.cell? ⟨b, off + j * k + i, none⟩ = some v)
theorem HoldsE.len {w : World} {a : Option Addr} {len cap : Nat} {l : List α} (h : HoldsE k enc w a len cap l) : l.length = len := h.1
theorem HoldsE.below {w w' : World} {a : Option Addr} {len cap : Nat} {l : List α} (h : HoldsE k enc w a len cap l) (hb : Below w.heap.size w w') : HoldsE k enc w' a len cap l := by
  obtain ⟨h1, h2, h3, h4, h5⟩ := h
  refine ⟨h1, h2, h3, h4, fun hp => ?_⟩
  obtain ⟨b, off, e, hlt, hc⟩ := h5 hp
  exact ⟨b, off, e, Nat.lt_of_lt_of_le hlt hb.size, fun j x hx i v hv => keepc hb (hc j x hx i v hv)⟩

/-- What the call owns, from block 'base' on: nil, or a row. -/
def OwnE (e : TypeId) (k : Nat) (enc : α → List Value) (base : Nat) (w : World) (v : Value) (n : Nat) (l : List α) : Prop := l.length = n ∧ w.ownsRow base e k v n (l.flatMap enc)
section
variable {e : TypeId} {base : Nat} {w w' : World} {v : Value} {n : Nat} {l : List α}
theorem OwnE.len (h : OwnE e k enc base w v n l) : l.length = n := h.1
theorem OwnE.form (h : OwnE e k enc base w v n l) : ∃ a cap, v = .slice a n cap := by
  rcases h.2.2 with ⟨rfl, rfl⟩ | ⟨g, cap, cur, rfl, _⟩
  · exact ⟨none, 0, rfl⟩
  · exact ⟨_, _, rfl⟩
theorem OwnE.holds {a : Option Addr} {cap : Nat} (hk : ∀ x, (enc x).length = k) (h : OwnE e k enc base w (.slice a n cap) n l) : HoldsE k enc w a n cap l := by
  have hl := h.len
  rcases h.2.2 with ⟨hv, hn⟩ | ⟨g, cap', cur, hv, hg, hh, hc, hm, hs, ht⟩
  · simp at hv
    obtain ⟨rfl, rfl, rfl⟩ := hv
    exact ⟨hl, by omega, by omega, fun _ => ⟨rfl, rfl⟩, fun h => absurd h (by omega)⟩
  · simp at hv
    obtain ⟨rfl, rfl⟩ := hv
    unfold maxLen at hm
    refine ⟨hl, hc, by omega, fun h => by simp at h, fun hp => ⟨g, 0, rfl, (Array.getElem?_eq_some_iff.1 hh).1, fun j x hx i u hu => ?_⟩⟩
    have := h.2.cells (g := g) rfl _ _ (flat_get hk l j x i u hx hu)
    rw [Addr.add_lit, ← Nat.add_assoc] at this
    exact this
theorem OwnE.lt (h : OwnE e k enc base w v n l) : ∀ g, v.ownBlock = some g → base ≤ g ∧ g < w.heap.size := h.2.lt
theorem OwnE.below (h : OwnE e k enc base w v n l) (hb : Below w.heap.size w w') : OwnE e k enc base w' v n l := by
  obtain ⟨h0, h1, h2⟩ := h
  refine ⟨h0, h1, ?_⟩
  rcases h2 with h2 | ⟨g, cap, cur, hv, hg, hh, r⟩
  · exact .inl h2
  · refine .inr ⟨g, cap, cur, hv, hg, ?_, r⟩
    rw [hb.block g (Array.getElem?_eq_some_iff.1 hh).1]
    exact hh
theorem OwnE.weaken {b' : Nat} (h : OwnE e k enc base w v n l) (hb : b' ≤ base) : OwnE e k enc b' w v n l := by
  obtain ⟨h0, h1, h2⟩ := h
  refine ⟨h0, h1, ?_⟩
  rcases h2 with h2 | ⟨g, cap, cur, hv, hg, r⟩
  · exact .inl h2
  · exact .inr ⟨g, cap, cur, hv, by omega, r⟩
theorem OwnE.nil (e : TypeId) (k : Nat) (enc : α → List Value) (base : Nat) (w : World) : OwnE e k enc base w (.slice none 0 0) 0 [] := ⟨rfl, World.ownsRow_nil _ _ _ _⟩
theorem OwnE.lit (e : TypeId) (k : Nat) (enc : α → List Value) (w : World) : OwnE e k enc w.heap.size (w.alloc (.cells #[] e)) (.slice (some ⟨w.heap.size, 0, none⟩) 0 0) 0 [] :=
  ⟨rfl, World.ownsRow_made w #[] 0 (Nat.le_refl _) (by unfold maxLen; omega) (by simp)⟩
end

section
variable {ops : Array Oper} {rest : List Oper} {o : Oper} {a : Act} {Q : Exit → Act → World → Prop}

/-- 'append(b, p...)', b the call's own, it may grow. -/
theorem cat_ownE (T e : TypeId) (z : Value) (bytes : Nat) (hk : ∀ x, (enc x).length = k) (h1 : ∀ x, ∀ u ∈ enc x, u.oneCell' = true) (hT : Try.prog.underlying T = some (.slice e)) (hI : (Try.prog.info? e).map (fun i => (i.zero, i.size, i.bytes)) = some (some z, k, bytes)) (hz : z.cells.size = k) (hk0 : 0 < k)
    (wr : World) (hg : o.guard = none) (s y : Operand) (hop : o.op = Op.call { callee := Callee.builtin Builtin.append, args := #[s, y], argTypes := #[T, T] })
    (base n : Nat) (v : Value) (l : List α) (hs : a.eval s = v) (hown : OwnE e k enc base wr v n l) (hb : base ≤ wr.heap.size) (ao : Option Addr) (m c : Nat) (p : List α) (hx : a.eval y = .slice ao m c) (hp : HoldsE k enc wr ao m c p) (b0 : n + m ≤ 9223372036854775807) (b1 : (n + m) * bytes ≤ 140737488355328)
    (hK : ∀ v' w', OwnE e k enc base w' v' (n + m) (l ++ p) → Below base wr w' → wr.grownBy w' v.ownBlock → wpList Try.prog ops Q rest (a.put o.dst v') w') :
    wpList Try.prog ops Q (o :: rest) a wr := by
  obtain ⟨i0, hi, hz0, hz1, hz2⟩ := info_parts hI
  obtain ⟨p1, p2, p3, p6, p7⟩ := hp
  have hrow : ∀ g, v.ownBlock = some g → base ≤ g := fun g hk => (hown.lt g hk).1
  by_cases hm : 0 < m
  · obtain ⟨b, off, rfl, hlt, hc⟩ := p7 hm
    refine wpList_append_own _ hg s y T hop base e i0 z k bytes hT hi hz0 hz1 hz2 hz hk0 v n _ hs hown.2 ⟨b, off, none⟩ m c (p.flatMap enc) hx (by rw [flat_len hk, p1]) ?_ ?_ (by unfold maxLen; omega) b1 hb ?_
    · intro j u hj
      obtain ⟨j', x, i, rfl, hx, hu⟩ := flat_inv hk _ _ _ hj
      rw [Addr.add_lit, ← Nat.add_assoc]
      exact hc j' x hx i u hu
    · intro u hu
      obtain ⟨x, _, hx⟩ := List.mem_flatMap.1 hu
      exact h1 x u hx
    · intro v' w' h1 h2 _
      exact hK v' w' ⟨by simp [hown.len, p1], by simpa using h1⟩ ((Below.refl base wr).grown h2 hb hrow) h2
  · obtain rfl : m = 0 := by omega
    obtain rfl : p = [] := List.length_eq_zero_iff.1 p1
    cases ao with
    | none =>
      obtain ⟨_, rfl⟩ := p6 rfl
      refine wpList_append_own_none hg s y T hop base e i0 k hT hi v n _ hs hown.2 hx ?_
      exact hK v wr (by simpa using hown) (Below.refl _ _) (World.grownBy.refl _ _)
    | some ad =>
      refine wpList_append_own _ hg s y T hop base e i0 z k bytes hT hi hz0 hz1 hz2 hz hk0 v n _ hs hown.2 ad 0 c [] hx (by simp) (by simp) (by simp) (by unfold maxLen; omega) b1 hb ?_
      intro v' w' h1 h2 _
      exact hK v' w' ⟨by simp [hown.len], by simpa using h1⟩ ((Below.refl base wr).grown h2 hb hrow) h2

/-- 'append(b, x)', b the call's own, it may grow; x lies in a block of its own, laid just now. -/
theorem push_ownE (T e : TypeId) (z : Value) (bytes : Nat) (hk : ∀ x, (enc x).length = k) (h1 : ∀ x, ∀ u ∈ enc x, u.oneCell' = true) (hT : Try.prog.underlying T = some (.slice e)) (hI : (Try.prog.info? e).map (fun i => (i.zero, i.size, i.bytes)) = some (some z, k, bytes)) (hz : z.cells.size = k) (hk0 : 0 < k)
    (wr : World) (x : α) (hg : o.guard = none) (s y : Operand) (hop : o.op = Op.call { callee := Callee.builtin Builtin.append, args := #[s, y], argTypes := #[T, T] })
    (base n : Nat) (v : Value) (l : List α) (cs : Array Value) (hcs : cs.toList = enc x) (hs : a.eval s = v) (hown : OwnE e k enc base wr v n l) (hb : base ≤ wr.heap.size) (hx : a.eval y = .slice (some ⟨wr.heap.size, 0, none⟩) 1 1) (b0 : n + 1 ≤ 9223372036854775807) (b1 : (n + 1) * bytes ≤ 140737488355328)
    (hK : ∀ v' w', OwnE e k enc base w' v' (n + 1) (l ++ [x]) → Below base wr w' → wr.grownBy w' v.ownBlock → wpList Try.prog ops Q rest (a.put o.dst v') w') :
    wpList Try.prog ops Q (o :: rest) a (wr.alloc (.cells cs e)) := by
  obtain ⟨i0, hi, hz0, hz1, hz2⟩ := info_parts hI
  have hrow : ∀ g, v.ownBlock = some g → base ≤ g := fun g hk => (hown.lt g hk).1
  refine wpList_append_own _ hg s y T hop base e i0 z k bytes hT hi hz0 hz1 hz2 hz hk0 v n _ hs (hown.2.alloc _) ⟨wr.heap.size, 0, none⟩ 1 1 (enc x) hx (by rw [hk]; omega) ?_ (h1 x) (by unfold maxLen; omega) b1 (by simp; omega) ?_
  · intro j u hj
    rw [Addr.add_lit, Nat.zero_add]
    rw [cell_of_row _ wr.heap.size j cs e (0, 0) (heap_alloc_new wr _)]
    rw [← Array.getElem?_toList, hcs]
    exact hj
  · intro v' w' h1 h2 _
    have h3 := (World.grownBy_alloc wr (.cells cs e) v.ownBlock).trans h2
    exact hK v' w' ⟨by simp [hown.len], by simpa using h1⟩ (((Below.refl base wr).alloc hb _).grown h2 (by simp; omega) hrow) h3
end
end

/-- The cells of a queue. -/
def AtQ (w : World) (b o : Nat) (q : Qu) : Prop :=
  w.cell? ⟨b, o, none⟩ = some (.int .i64 q.id) ∧ w.cell? ⟨b, o + 1, none⟩ = some (.int .i64 q.par) ∧ w.cell? ⟨b, o + 2, none⟩ = some (.int .i64 q.wt) ∧ w.cell? ⟨b, o + 3, none⟩ = some (.int .i64 q.qc) ∧ w.cell? ⟨b, o + 4, none⟩ = some (.int .i64 q.qm) ∧ w.cell? ⟨b, o + 5, none⟩ = some (.int .i64 q.mc) ∧ w.cell? ⟨b, o + 6, none⟩ = some (.int .i64 q.mm)
theorem AtQ.same {w w' : World} {b o : Nat} {q : Qu} (h : AtQ w b o q) (hb : w'.heap[b]? = w.heap[b]?) : AtQ w' b o q := by
  have hc : ∀ i, w'.cell? ⟨b, i, none⟩ = w.cell? ⟨b, i, none⟩ := fun i => World.cell?_of_block hb
  obtain ⟨h0, h1, h2, h3, h4, h5, h6⟩ := h
  exact ⟨(hc _).trans h0, (hc _).trans h1, (hc _).trans h2, (hc _).trans h3, (hc _).trans h4, (hc _).trans h5, (hc _).trans h6⟩

/-- A list of queues in memory. -/
abbrev HoldsQ (w : World) (a : Option Addr) (len cap : Nat) (l : List Qu) : Prop := HoldsE 7 Qu.cs w a len cap l
/-- .. whose place is known. -/
def RowQ (w : World) (b off : Nat) (l : List Qu) : Prop := b < w.heap.size ∧ ∀ j, j < l.length → AtQ w b (off + j * 7) (qa l j)
theorem HoldsE.row {w : World} {a : Option Addr} {len cap : Nat} {l : List Qu} (h : HoldsQ w a len cap l) (hp : 0 < len) : ∃ b off, a = some ⟨b, off, none⟩ ∧ RowQ w b off l := by
  obtain ⟨h1, h2, h3, h4, h5⟩ := h
  obtain ⟨b, off, e, hlt, hc⟩ := h5 hp
  refine ⟨b, off, e, hlt, fun j hj => ?_⟩
  have hh := hc j _ (qa_get hj)
  exact ⟨hh 0 _ rfl, hh 1 _ rfl, hh 2 _ rfl, hh 3 _ rfl, hh 4 _ rfl, hh 5 _ rfl, hh 6 _ rfl⟩
theorem RowQ.holds {w : World} {b off cap : Nat} {l : List Qu} (h : RowQ w b off l) (h1 : l.length ≤ cap) (h2 : cap ≤ 9223372036854775807) : HoldsQ w (some ⟨b, off, none⟩) l.length cap l := by
  refine ⟨rfl, h1, h2, (fun e => by cases e), fun _ => ⟨b, off, rfl, h.1, fun j x hx i v hv => ?_⟩⟩
  have hj := (List.getElem?_eq_some_iff.1 hx).1
  obtain ⟨c0, c1, c2, c3, c4, c5, c6⟩ := h.2 j hj
  rw [qa_get hj] at hx
  cases hx
  match i, hv with
  | 0, hv => cases hv; exact c0
  | 1, hv => cases hv; exact c1
  | 2, hv => cases hv; exact c2
  | 3, hv => cases hv; exact c3
  | 4, hv => cases hv; exact c4
  | 5, hv => cases hv; exact c5
  | 6, hv => cases hv; exact c6
theorem RowQ.below {w w' : World} {b off : Nat} {l : List Qu} (h : RowQ w b off l) (hb : Below w.heap.size w w') : RowQ w' b off l :=
  ⟨Nat.lt_of_lt_of_le h.1 hb.size, fun j hj => (h.2 j hj).same (hb.block b h.1)⟩
theorem RowQ.same {w w' : World} {b off : Nat} {l : List Qu} (h : RowQ w b off l) (hb : w'.heap[b]? = w.heap[b]?) : RowQ w' b off l := by
  refine ⟨?_, fun j hj => (h.2 j hj).same hb⟩
  rcases Nat.lt_or_ge b w'.heap.size with hlt | hlt
  · exact hlt
  · rw [Array.getElem?_eq_none hlt, Array.getElem?_eq_getElem h.1] at hb; cases hb

/-- The map of the places of the first k queues. -/
def PlM (w : World) (b k : Nat) (l : List Qu) : Prop :=
  ∃ D : DataW Unit, w.ownsMap Try.prog 3 (plainElem Try.prog 3) b k D ∧ ∀ id : Int, Maps.has D (.int .i64 id) = decide (pl l id < k) ∧ (pl l id < k → D.atKey (.int .i64 id) (.lit (.int .i64 0)) = .lit (.int .i64 (pl l id)))
theorem PlM.same {w w' : World} {b k : Nat} {l : List Qu} (h : PlM w b k l) (hb : w'.heap[b]? = w.heap[b]?) : PlM w' b k l := by
  obtain ⟨D, ⟨es, clock, h1, h2⟩, h3⟩ := h
  exact ⟨D, ⟨es, clock, hb.trans h1, h2⟩, h3⟩
theorem PlM.lt {w : World} {b k : Nat} {l : List Qu} (h : PlM w b k l) : b < w.heap.size := by
  obtain ⟨D, ⟨es, clock, h1, h2⟩, h3⟩ := h
  exact (Array.getElem?_eq_some_iff.1 h1).1
theorem PlM.below {w w' : World} {b k : Nat} {l : List Qu} (h : PlM w b k l) (hb : Below w.heap.size w w') : PlM w' b k l := h.same (hb.block b h.lt)

theorem lawI : Keyed Try.prog 3 := int_keyed Try.underlying3
theorem zeroI (w : World) : (zeroValue 3).run Try.prog w = .ok (.int .i64 0) w := by kernel_rfl
theorem wfI {x : Int} (h : I64 x) : (Lit.int .i64 x).wf = true := WalkArith.wf_i64 h
theorem keyI {x : Int} (h : I64 x) : keyOf Try.prog 3 (.int .i64 x) = some (.int .i64 x) := keyOf_int_mk Try.underlying3 (wfI h)

theorem plM_put {w w' : World} {b k : Nat} {l : List Qu} {D : DataW Unit} (hD : ∀ id : Int, Maps.has D (.int .i64 id) = decide (pl l id < k) ∧ (pl l id < k → D.atKey (.int .i64 id) (.lit (.int .i64 0)) = .lit (.int .i64 (pl l id)))) (hm : IsMap D)
    (hk : k < l.length) (hp : pl l (qa l k).id = k) (hown : w'.ownsMap Try.prog 3 (plainElem Try.prog 3) b (k + 1) (D.put (.int .i64 (qa l k).id) (.lit (.int .i64 (k : Int))))) : PlM w' b (k + 1) l := by
  refine ⟨_, hown, fun id => ?_⟩
  by_cases e : id = (qa l k).id
  · subst e
    rw [has_put_same hm (by trivial), atKey_put_same hm (by trivial), hp]
    exact ⟨by simp, fun _ => rfl⟩
  · have hne : (Lit.int .i64 id) ≠ .int .i64 (qa l k).id := fun h => e (by injection h)
    rw [has_put_other hne, atKey_put_other hne, (hD id).1]
    have h1 : pl l id ≠ k := fun h => by
      have := pl_id (l := l) (id := id) (by omega)
      rw [h] at this; exact e this.symm
    constructor
    · congr 1
      apply propext
      omega
    · intro h; exact (hD id).2 (by omega)

section
variable {w : World} {b k : Nat} {l : List Qu} {x : Int}
end

end Go.Proofs.Ytikalkigmnipiaa
