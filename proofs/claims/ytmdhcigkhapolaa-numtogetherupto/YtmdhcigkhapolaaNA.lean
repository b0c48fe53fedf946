/-
  Slices of int64: what they read as; what a call owns; append, in the walk's form.
-/
import Derived.Test.YtmdhcigkhapolaaWM
import Derived.Test.YtmdhcigkhapolaaOpenS
import Derived.OwnWalk
import Derived.Laws.AppendOwnNone
namespace Go.Proofs.Ytmdhcigkhapolaa
open Go.RowKit Go.Deep
set_option linter.unusedVariables false

/-- Numbers of int64. -/
def BI (l : List Int) : Prop := ∀ x ∈ l, I64 x
theorem BI.nil : BI [] := fun x h => by cases h
theorem BI.app {a b : List Int} (h : BI a) (k : BI b) : BI (a ++ b) := fun x hx => (List.mem_append.1 hx).elim (h x) (k x)
theorem BI.one {x : Int} (h : I64 x) : BI [x] := fun y hy => by simp at hy; subst hy; exact h

theorem info64 : (Try.prog.info? 2).map (fun i => (i.zero, i.size, i.bytes)) = some (some (.int .i64 0), 1, 8) := by kernel_rfl

/-- What a slice of bytes reads as, whatever its length. -/
def HoldsJ (w : World) (a : Option Addr) (len cap : Nat) (l : List Int) : Prop :=
  l.length = len ∧ len ≤ 9223372036854775807 ∧ len ≤ cap ∧ cap ≤ 9223372036854775807 ∧ BI l ∧ (a = none → len = 0 ∧ cap = 0) ∧ (0 < len → ∃ b off, a = some ⟨b, off, none⟩ ∧ ∀ j, j < len → w.cell? ⟨b, off + j, none⟩ = some (.int .i64 (l[j]?.getD 0)))

theorem HoldsJ.below {w w' : World} {a : Option Addr} {len cap : Nat} {l : List Int} (h : HoldsJ w a len cap l) (hb : Below w.heap.size w w') : HoldsJ w' a len cap l := by
  obtain ⟨h1, h2, h3, h3', h4, h5, h6⟩ := h
  refine ⟨h1, h2, h3, h3', h4, h5, fun hp => ?_⟩
  obtain ⟨b, off, e, hc⟩ := h6 hp
  exact ⟨b, off, e, fun j hj => keepc hb (hc j hj)⟩

theorem holdsJ_row {w : World} {a : Option Addr} {len cap : Nat} {zs : List Int} (h : IsRow .i64 w a len cap zs) : HoldsJ w a len cap (zs.take len) := by
  rcases h with ⟨rfl, rfl, rfl, rfl⟩ | ⟨x, rfl, hl, hm, hz, hc, hw⟩
  · exact ⟨rfl, by omega, by omega, by omega, fun x hx => by simp at hx, fun _ => ⟨rfl, rfl⟩, fun h => absurd h (by omega)⟩
  · unfold maxLen at hm
    refine ⟨by simp; omega, by omega, by omega, by omega, fun y hy => bounds_i64 (hw y (List.mem_of_mem_take hy)), fun h => by simp at h, fun hp => ?_⟩
    obtain ⟨b, off, rfl, hc'⟩ := ints_at hc (by omega)
    refine ⟨b, off, rfl, fun j hj => ?_⟩
    rw [hc' j (by omega)]
    simp [hj, List.getD]

/-- A row of bytes that the call owns, from block 'base' on. -/
def RowI (base : Nat) (w : World) (g n cap : Nat) (l : List Int) : Prop := w.ownsRow base 2 1 (.slice (some ⟨g, 0, none⟩) n cap) n (l.map (Value.int .i64)) ∧ BI l
/-- The same, of a value: nil, or a row. -/
def OwnI (base : Nat) (w : World) (v : Value) (n : Nat) (l : List Int) : Prop := w.ownsRow base 2 1 v n (l.map (Value.int .i64)) ∧ BI l

theorem RowI.own {base : Nat} {w : World} {g n cap : Nat} {l : List Int} (h : RowI base w g n cap l) : OwnI base w (.slice (some ⟨g, 0, none⟩) n cap) n l := h
theorem OwnI.len {base : Nat} {w : World} {v : Value} {n : Nat} {l : List Int} (h : OwnI base w v n l) : l.length = n := by have := h.1.1; simpa using this
theorem RowI.len {base : Nat} {w : World} {g n cap : Nat} {l : List Int} (h : RowI base w g n cap l) : l.length = n := h.own.len
theorem RowI.lt {base : Nat} {w : World} {g n cap : Nat} {l : List Int} (h : RowI base w g n cap l) : base ≤ g ∧ g < w.heap.size := h.1.lt g rfl
theorem RowI.capm {base : Nat} {w : World} {g n cap : Nat} {l : List Int} (h : RowI base w g n cap l) : n ≤ cap ∧ cap ≤ 9223372036854775807 := by
  rcases h.1.2 with ⟨h, _⟩ | ⟨g', cap', cur, hv, _, _, a, b, _⟩
  · simp at h
  · simp at hv; obtain ⟨rfl, rfl⟩ := hv; exact ⟨a, b⟩
theorem OwnI.form {base : Nat} {w : World} {v : Value} {n : Nat} {l : List Int} (h : OwnI base w v n l) : ∃ a cap, v = .slice a n cap := by
  rcases h.1.2 with ⟨rfl, rfl⟩ | ⟨g, cap, cur, rfl, _⟩
  · exact ⟨none, 0, rfl⟩
  · exact ⟨_, _, rfl⟩
theorem OwnI.holds {base : Nat} {w : World} {a : Option Addr} {n cap : Nat} {l : List Int} (h : OwnI base w (.slice a n cap) n l) : HoldsJ w a n cap l := by
  have hl := h.len
  rcases h.1.2 with ⟨hv, hn⟩ | ⟨g, cap', cur, hv, hg, hh, hc, hm, hs, ht⟩
  · simp at hv
    obtain ⟨rfl, rfl, rfl⟩ := hv
    exact ⟨hl, by omega, by omega, by omega, h.2, fun _ => ⟨rfl, rfl⟩, fun h => absurd h (by omega)⟩
  · simp at hv
    obtain ⟨rfl, rfl⟩ := hv
    unfold maxLen at hm
    refine ⟨hl, by omega, by omega, by omega, h.2, fun h => by simp at h, fun hp => ⟨g, 0, rfl, fun j hj => ?_⟩⟩
    have := h.1.cellAt j (by omega)
    rw [Nat.zero_add, this]
    simp [List.getElem?_map, List.getElem?_eq_getElem (show j < l.length by omega)]
theorem RowI.holds {base : Nat} {w : World} {g n cap : Nat} {l : List Int} (h : RowI base w g n cap l) : HoldsJ w (some ⟨g, 0, none⟩) n cap l := h.own.holds
theorem OwnI.base {base b' : Nat} {w : World} {v : Value} {n : Nat} {l : List Int} (h : OwnI base w v n l) (hb : b' ≤ base) : OwnI b' w v n l := by
  obtain ⟨⟨h1, h2⟩, h3⟩ := h
  refine ⟨⟨h1, ?_⟩, h3⟩
  rcases h2 with h2 | ⟨g, cap, cur, hv, hg, r⟩
  · exact .inl h2
  · exact .inr ⟨g, cap, cur, hv, by omega, r⟩
theorem OwnI.below {base B : Nat} {w w' : World} {v : Value} {n : Nat} {l : List Int} (h : OwnI base w v n l) (hb : Below w.heap.size w w') : OwnI base w' v n l := by
  obtain ⟨⟨h1, h2⟩, h3⟩ := h
  refine ⟨⟨h1, ?_⟩, h3⟩
  rcases h2 with h2 | ⟨g, cap, cur, hv, hg, hh, r⟩
  · exact .inl h2
  · refine .inr ⟨g, cap, cur, hv, hg, ?_, r⟩
    rw [hb.block g (by
      rcases Nat.lt_or_ge g w.heap.size with h | h
      · exact h
      · rw [Array.getElem?_eq_none (by omega)] at hh; cases hh)]
    exact hh
theorem RowI.below {base : Nat} {w w' : World} {g n cap : Nat} {l : List Int} (h : RowI base w g n cap l) (hb : Below w.heap.size w w') : RowI base w' g n cap l := h.own.below (B := 0) hb

section
variable {ops : Array Oper} {rest : List Oper} {o : Oper} {a : Act} {Q : Exit → Act → World → Prop}

/-- 'append(b, p...)', b the call's own, it may grow. -/
theorem cat_ownI (wr : World) (hg : o.guard = none) (s y : Operand) (hop : o.op = Op.call { callee := Callee.builtin Builtin.append, args := #[s, y], argTypes := #[22, 22] })
    (base n : Nat) (v : Value) (l : List Int) (hs : a.eval s = v) (hown : OwnI base wr v n l) (hb : base ≤ wr.heap.size) (ao : Option Addr) (m c : Nat) (p : List Int) (hx : a.eval y = .slice ao m c) (hp : HoldsJ wr ao m c p) (b1 : n + m ≤ 17592186044416)
    (hK : ∀ v' w', OwnI base w' v' (n + m) (l ++ p) → Below base wr w' → wpList Try.prog ops Q rest (a.put o.dst v') w') :
    wpList Try.prog ops Q (o :: rest) a wr := by
  obtain ⟨i0, hi, hz0, hz1, hz2⟩ := info_parts info64
  obtain ⟨p1, p2, p3, p4, p5, p6, p7⟩ := hp
  have hrow : ∀ k, v.ownBlock = some k → base ≤ k := fun k hk => (hown.1.lt k hk).1
  by_cases hm : 0 < m
  · obtain ⟨b, off, rfl, hc⟩ := p7 hm
    refine wpList_append_own _ hg s y 22 hop base 2 i0 (.int .i64 0) 1 8 Try.underlying22 hi hz0 hz1 hz2 rfl (by decide) v n _ hs hown.1 ⟨b, off, none⟩ m c (p.map (Value.int .i64)) hx (by simp [p1]) ?_ (ints_oneCell _ _) (by unfold maxLen; omega) (by omega) hb ?_
    · intro j u hj
      have hjm : j < m := by have := (List.getElem?_eq_some_iff.1 hj).1; simpa [p1] using this
      rw [Addr.add_lit, hc j hjm]
      rw [List.getElem?_map, List.getElem?_eq_getElem (by omega)] at hj
      rw [List.getElem?_eq_getElem (by omega)]
      simpa using hj
    · intro v' w' h1 h2 _
      exact hK v' w' ⟨by simpa using h1, hown.2.app p5⟩ ((Below.refl base wr).grown h2 hb hrow)
  · obtain rfl : m = 0 := by omega
    obtain rfl : p = [] := List.length_eq_zero_iff.1 p1
    cases ao with
    | none =>
      obtain ⟨_, rfl⟩ := p6 rfl
      refine wpList_append_own_none hg s y 22 hop base 2 i0 1 Try.underlying22 hi v n _ hs hown.1 hx ?_
      exact hK v wr (by simpa using hown) (Below.refl _ _)
    | some ad =>
      refine wpList_append_own _ hg s y 22 hop base 2 i0 (.int .i64 0) 1 8 Try.underlying22 hi hz0 hz1 hz2 rfl (by decide) v n _ hs hown.1 ad 0 c [] hx (by simp) (by simp) (by simp) (by unfold maxLen; omega) (by omega) hb ?_
      intro v' w' h1 h2 _
      exact hK v' w' ⟨by simpa using h1, hown.2.app p5⟩ ((Below.refl base wr).grown h2 hb hrow)

/-- 'append(b, x)', b the call's own, it may grow. -/
theorem push_ownI (wr : World) (x : Int) (hg : o.guard = none) (s y : Operand) (hop : o.op = Op.call { callee := Callee.builtin Builtin.append, args := #[s, y], argTypes := #[22, 22] })
    (base n : Nat) (v : Value) (l : List Int) (hs : a.eval s = v) (hown : OwnI base wr v n l) (hb : base ≤ wr.heap.size) (hx : a.eval y = .slice (some ⟨wr.heap.size, 0, none⟩) 1 1) (x0 : I64 x) (b1 : n + 1 ≤ 17592186044416)
    (hK : ∀ v' w', OwnI base w' v' (n + 1) (l ++ [x]) → Below base wr w' → wpList Try.prog ops Q rest (a.put o.dst v') w') :
    wpList Try.prog ops Q (o :: rest) a (wr.alloc (.cells #[.int .i64 x] 2)) := by
  obtain ⟨i0, hi, hz0, hz1, hz2⟩ := info_parts info64
  have hrow : ∀ k, v.ownBlock = some k → base ≤ k := fun k hk => (hown.1.lt k hk).1
  refine wpList_append_own _ hg s y 22 hop base 2 i0 (.int .i64 0) 1 8 Try.underlying22 hi hz0 hz1 hz2 rfl (by decide) v n _ hs (hown.1.alloc _) ⟨wr.heap.size, 0, none⟩ 1 1 [.int .i64 x] hx rfl ?_ ?_ (by unfold maxLen; omega) (by omega) (by simp; omega) ?_
  · intro j u hj
    match j, hj with
    | 0, hj => simp at hj; subst hj; simp [Addr.add]
  · intro u hu; simp at hu; subst hu; rfl
  · intro v' w' h1 h2 _
    exact hK v' w' ⟨by simpa using h1, hown.2.app (BI.one x0)⟩ (((Below.refl base wr).alloc hb _).grown h2 (by simp; omega) hrow)

end

/-- 'append([]byte{}, ..)': the empty literal. -/
theorem own_litI (w : World) : OwnI w.heap.size (w.alloc (.cells #[] 2)) (.slice (some ⟨w.heap.size, 0, none⟩) 0 0) 0 [] :=
  ⟨World.ownsRow_made w #[] 0 (Nat.le_refl _) (by unfold maxLen; omega) (by simp), BI.nil⟩
theorem own_oneI (w : World) (x : Int) (x0 : I64 x) : OwnI w.heap.size (w.alloc (.cells #[.int .i64 x] 2)) (.slice (some ⟨w.heap.size, 0, none⟩) 1 1) 1 [x] :=
  ⟨⟨rfl, .inr ⟨w.heap.size, 1, #[.int .i64 x], rfl, Nat.le_refl _, heap_alloc_new w _, Nat.le_refl _, by unfold maxLen; omega, rfl, rfl⟩⟩, BI.one x0⟩

theorem own_nilI (base : Nat) (w : World) : OwnI base w (.slice none 0 0) 0 [] := ⟨World.ownsRow_nil _ _ _ _, BI.nil⟩
theorem HoldsJ.holds {w : World} {a : Option Addr} {len cap : Nat} {l : List Int} (h : HoldsJ w a len cap l) (hm : len ≤ 140737488355328) : Holds w a len l := ⟨h.1, hm, h.2.2.2.2.1, h.2.2.2.2.2.2⟩
theorem OwnI.rowOf {base : Nat} {w : World} {v : Value} {n : Nat} {l : List Int} (h : OwnI base w v n l) (hn : 0 < n) : ∃ g c, v = .slice (some ⟨g, 0, none⟩) n c ∧ RowI base w g n c l := by
  rcases h.1.2 with ⟨rfl, rfl⟩ | ⟨g, cap, cur, rfl, _⟩
  · omega
  · exact ⟨g, cap, rfl, h⟩

end Go.Proofs.Ytmdhcigkhapolaa
