/-
  Slices of bytes: what they read as; what a call owns; append and make, in the walk's form.
-/
import Derived.Test.YtpkifcoichjnbaaSA
import Derived.OwnWalk
import Derived.Laws.AppendOwnNone
import Derived.Laws.BytesString
namespace Go.Proofs.Ytpkifcoichjnbaa
open Go.RowKit Go.Deep
set_option linter.unusedVariables false

theorem info8 : (Try.prog.info? 5).map (fun i => (i.zero, i.size, i.bytes)) = some (some (.int .u8 0), 1, 1) := by kernel_rfl

/-- What a slice of bytes reads as, whatever its length. -/
def HoldsB (w : World) (a : Option Addr) (len cap : Nat) (l : List Int) : Prop :=
  l.length = len ∧ len ≤ 9223372036854775807 ∧ len ≤ cap ∧ cap ≤ 9223372036854775807 ∧ BB l ∧ (a = none → len = 0 ∧ cap = 0) ∧ (0 < len → ∃ b off, a = some ⟨b, off, none⟩ ∧ ∀ j, j < len → w.cell? ⟨b, off + j, none⟩ = some (.int .u8 (l[j]?.getD 0)))

theorem HoldsB.below {w w' : World} {a : Option Addr} {len cap : Nat} {l : List Int} (h : HoldsB w a len cap l) (hb : Below w.heap.size w w') : HoldsB w' a len cap l := by
  obtain ⟨h1, h2, h3, h3', h4, h5, h6⟩ := h
  refine ⟨h1, h2, h3, h3', h4, h5, fun hp => ?_⟩
  obtain ⟨b, off, e, hc⟩ := h6 hp
  exact ⟨b, off, e, fun j hj => keepc hb (hc j hj)⟩

theorem bounds_u8' {n : Int} (h : (Lit.int .u8 n).wf = true) : 0 ≤ n ∧ n ≤ 255 := bounds_u8 h

theorem holdsB_row {w : World} {a : Option Addr} {len cap : Nat} {zs : List Int} (h : IsRow .u8 w a len cap zs) : HoldsB w a len cap (zs.take len) := by
  rcases h with ⟨rfl, rfl, rfl, rfl⟩ | ⟨x, rfl, hl, hm, hz, hc, hw⟩
  · exact ⟨rfl, by omega, by omega, by omega, fun x hx => by simp at hx, fun _ => ⟨rfl, rfl⟩, fun h => absurd h (by omega)⟩
  · unfold maxLen at hm
    refine ⟨by simp; omega, by omega, by omega, by omega, fun y hy => bounds_u8' (hw y (List.mem_of_mem_take hy)), fun h => by simp at h, fun hp => ?_⟩
    obtain ⟨b, off, rfl, hc'⟩ := ints_at hc (by omega)
    refine ⟨b, off, rfl, fun j hj => ?_⟩
    rw [hc' j (by omega)]
    simp [hj, List.getD]

/-- A row of bytes that the call owns, from block 'base' on. -/
def Row (base : Nat) (w : World) (g n cap : Nat) (l : List Int) : Prop := w.ownsRow base 5 1 (.slice (some ⟨g, 0, none⟩) n cap) n (l.map (Value.int .u8)) ∧ BB l
/-- The same, of a value: nil, or a row. -/
def Own (base : Nat) (w : World) (v : Value) (n : Nat) (l : List Int) : Prop := w.ownsRow base 5 1 v n (l.map (Value.int .u8)) ∧ BB l

theorem Row.own {base : Nat} {w : World} {g n cap : Nat} {l : List Int} (h : Row base w g n cap l) : Own base w (.slice (some ⟨g, 0, none⟩) n cap) n l := h
theorem Own.len {base : Nat} {w : World} {v : Value} {n : Nat} {l : List Int} (h : Own base w v n l) : l.length = n := by have := h.1.1; simpa using this
theorem Row.len {base : Nat} {w : World} {g n cap : Nat} {l : List Int} (h : Row base w g n cap l) : l.length = n := h.own.len
theorem Row.lt {base : Nat} {w : World} {g n cap : Nat} {l : List Int} (h : Row base w g n cap l) : base ≤ g ∧ g < w.heap.size := h.1.lt g rfl
theorem Row.capm {base : Nat} {w : World} {g n cap : Nat} {l : List Int} (h : Row base w g n cap l) : n ≤ cap ∧ cap ≤ 9223372036854775807 := by
  rcases h.1.2 with ⟨h, _⟩ | ⟨g', cap', cur, hv, _, _, a, b, _⟩
  · simp at h
  · simp at hv; obtain ⟨rfl, rfl⟩ := hv; exact ⟨a, b⟩
theorem Own.form {base : Nat} {w : World} {v : Value} {n : Nat} {l : List Int} (h : Own base w v n l) : ∃ a cap, v = .slice a n cap := by
  rcases h.1.2 with ⟨rfl, rfl⟩ | ⟨g, cap, cur, rfl, _⟩
  · exact ⟨none, 0, rfl⟩
  · exact ⟨_, _, rfl⟩
theorem Own.holds {base : Nat} {w : World} {a : Option Addr} {n cap : Nat} {l : List Int} (h : Own base w (.slice a n cap) n l) : HoldsB w a n cap l := by
  have hl := h.len
  rcases h.1.2 with ⟨hv, hn⟩ | ⟨g, cap', cur, hv, hg, hh, hc, hm, hs, ht⟩
  · simp at hv
    obtain ⟨rfl, rfl, rfl⟩ := hv
    exact ⟨hl, by omega, by omega, by omega, h.2, fun _ => ⟨rfl, rfl⟩, fun h => absurd h (by omega)⟩
  · simp at hv
    obtain ⟨rfl, rfl⟩ := hv
    unfold maxLen at hm
    refine ⟨hl, by omega, by omega, by omega, h.2, fun h => by simp at h, fun hp => ⟨g, 0, rfl, fun j hj => ?_⟩⟩
    have := h.1.cellAt j (by omega)
    rw [Nat.zero_add, this]
    simp [List.getElem?_map, List.getElem?_eq_getElem (show j < l.length by omega)]
theorem Row.holds {base : Nat} {w : World} {g n cap : Nat} {l : List Int} (h : Row base w g n cap l) : HoldsB w (some ⟨g, 0, none⟩) n cap l := h.own.holds
theorem Own.base {base b' : Nat} {w : World} {v : Value} {n : Nat} {l : List Int} (h : Own base w v n l) (hb : b' ≤ base) : Own b' w v n l := by
  obtain ⟨⟨h1, h2⟩, h3⟩ := h
  refine ⟨⟨h1, ?_⟩, h3⟩
  rcases h2 with h2 | ⟨g, cap, cur, hv, hg, r⟩
  · exact .inl h2
  · exact .inr ⟨g, cap, cur, hv, by omega, r⟩
theorem Own.below {base B : Nat} {w w' : World} {v : Value} {n : Nat} {l : List Int} (h : Own base w v n l) (hb : Below w.heap.size w w') : Own base w' v n l := by
  obtain ⟨⟨h1, h2⟩, h3⟩ := h
  refine ⟨⟨h1, ?_⟩, h3⟩
  rcases h2 with h2 | ⟨g, cap, cur, hv, hg, hh, r⟩
  · exact .inl h2
  · refine .inr ⟨g, cap, cur, hv, hg, ?_, r⟩
    rw [hb.block g (by
      rcases Nat.lt_or_ge g w.heap.size with h | h
      · exact h
      · rw [Array.getElem?_eq_none (by omega)] at hh; cases hh)]
    exact hh
theorem Row.below {base : Nat} {w w' : World} {g n cap : Nat} {l : List Int} (h : Row base w g n cap l) (hb : Below w.heap.size w w') : Row base w' g n cap l := h.own.below (B := 0) hb

section
variable {ops : Array Oper} {rest : List Oper} {o : Oper} {a : Act} {Q : Exit → Act → World → Prop}

/-- 'append(b, x)' where there is room. -/
theorem push_fits (wr : World) (x : Int) (hg : o.guard = none) (s y : Operand) (hop : o.op = Op.call { callee := Callee.builtin Builtin.append, args := #[s, y], argTypes := #[34, 34] })
    (base g n cap : Nat) (l : List Int) (hs : a.eval s = .slice (some ⟨g, 0, none⟩) n cap) (hown : Row base wr g n cap l) (hx : a.eval y = .slice (some ⟨wr.heap.size, 0, none⟩) 1 1) (x0 : 0 ≤ x) (x1 : x ≤ 255) (b1 : n + 1 ≤ cap)
    (hK : ∀ w', Row base w' g (n + 1) cap (l ++ [x]) → Below base wr w' → wpList Try.prog ops Q rest (a.put o.dst (.slice (some ⟨g, 0, none⟩) (n + 1) cap)) w') :
    wpList Try.prog ops Q (o :: rest) a (wr.alloc (.cells #[.int .u8 x] 5)) := by
  obtain ⟨i0, hi, hz0, hz1, hz2⟩ := info_parts info8
  refine wpList_append_fits _ hg s y 34 hop base 5 i0 1 Try.underlying34 hi hz1 g n cap _ hs (hown.1.alloc _) ⟨wr.heap.size, 0, none⟩ 1 1 [.int .u8 x] hx rfl ?_ ?_ b1 ?_
  · intro j u hj
    match j, hj with
    | 0, hj => simp at hj; subst hj; simp [Addr.add]
  · intro u hu; simp at hu; subst hu; rfl
  · intro w' h1 h2
    refine hK w' ⟨by simpa using h1, hown.2.app (BB.one x0 x1)⟩ ?_
    have := hown.lt
    exact ((Below.refl base wr).alloc (by omega) _).grown h2 (by simp; omega) (fun k e => by cases e; exact this.1)

/-- 'append(b, p...)' where there is room. -/
theorem cat_fits (wr : World) (hg : o.guard = none) (s y : Operand) (hop : o.op = Op.call { callee := Callee.builtin Builtin.append, args := #[s, y], argTypes := #[34, 34] })
    (base g n cap : Nat) (l : List Int) (hs : a.eval s = .slice (some ⟨g, 0, none⟩) n cap) (hown : Row base wr g n cap l) (ao : Option Addr) (m c : Nat) (p : List Int) (hx : a.eval y = .slice ao m c) (hp : HoldsB wr ao m c p) (b1 : n + m ≤ cap)
    (hK : ∀ w', Row base w' g (n + m) cap (l ++ p) → Below base wr w' → wpList Try.prog ops Q rest (a.put o.dst (.slice (some ⟨g, 0, none⟩) (n + m) cap)) w') :
    wpList Try.prog ops Q (o :: rest) a wr := by
  obtain ⟨i0, hi, hz0, hz1, hz2⟩ := info_parts info8
  obtain ⟨p1, p2, p3, p4, p5, p6, p7⟩ := hp
  refine wpList_append_fits_any _ hg s y 34 hop base 5 i0 1 Try.underlying34 hi hz1 g n cap _ hs hown.1 ao m c (p.map (Value.int .u8)) hx (by simp [p1]) p6 ?_ (ints_oneCell _ _) b1 ?_
  · intro ad had j u hj
    have hjm : j < m := by have := (List.getElem?_eq_some_iff.1 hj).1; simpa [p1] using this
    obtain ⟨b, off, e, hc⟩ := p7 (by omega)
    rw [had] at e
    cases e
    rw [Addr.add_lit, hc j hjm]
    rw [List.getElem?_map, List.getElem?_eq_getElem (by omega)] at hj
    rw [List.getElem?_eq_getElem (by omega)]
    simpa using hj
  · intro w' h1 h2
    refine hK w' ⟨by simpa using h1, hown.2.app p5⟩ ?_
    have := hown.lt
    exact (Below.refl base wr).grown h2 (by omega) (fun k e => by cases e; exact this.1)

/-- 'append(b, p...)', b the call's own, it may grow. -/
theorem cat_own (wr : World) (hg : o.guard = none) (s y : Operand) (hop : o.op = Op.call { callee := Callee.builtin Builtin.append, args := #[s, y], argTypes := #[34, 34] })
    (base n : Nat) (v : Value) (l : List Int) (hs : a.eval s = v) (hown : Own base wr v n l) (hb : base ≤ wr.heap.size) (ao : Option Addr) (m c : Nat) (p : List Int) (hx : a.eval y = .slice ao m c) (hp : HoldsB wr ao m c p) (b1 : n + m ≤ 140737488355328)
    (hK : ∀ v' w', Own base w' v' (n + m) (l ++ p) → Below base wr w' → wpList Try.prog ops Q rest (a.put o.dst v') w') :
    wpList Try.prog ops Q (o :: rest) a wr := by
  obtain ⟨i0, hi, hz0, hz1, hz2⟩ := info_parts info8
  obtain ⟨p1, p2, p3, p4, p5, p6, p7⟩ := hp
  have hrow : ∀ k, v.ownBlock = some k → base ≤ k := fun k hk => (hown.1.lt k hk).1
  by_cases hm : 0 < m
  · obtain ⟨b, off, rfl, hc⟩ := p7 hm
    refine wpList_append_own _ hg s y 34 hop base 5 i0 (.int .u8 0) 1 1 Try.underlying34 hi hz0 hz1 hz2 rfl (by decide) v n _ hs hown.1 ⟨b, off, none⟩ m c (p.map (Value.int .u8)) hx (by simp [p1]) ?_ (ints_oneCell _ _) (by unfold maxLen; omega) (by omega) hb ?_
    · intro j u hj
      have hjm : j < m := by have := (List.getElem?_eq_some_iff.1 hj).1; simpa [p1] using this
      rw [Addr.add_lit, hc j hjm]
      rw [List.getElem?_map, List.getElem?_eq_getElem (by omega)] at hj
      rw [List.getElem?_eq_getElem (by omega)]
      simpa using hj
    · intro v' w' h1 h2 _
      exact hK v' w' ⟨by simpa using h1, hown.2.app p5⟩ ((Below.refl base wr).grown h2 hb hrow)
  · obtain rfl : m = 0 := by omega
    obtain rfl : p = [] := List.length_eq_zero_iff.1 p1
    cases ao with
    | none =>
      obtain ⟨_, rfl⟩ := p6 rfl
      refine wpList_append_own_none hg s y 34 hop base 5 i0 1 Try.underlying34 hi v n _ hs hown.1 hx ?_
      exact hK v wr (by simpa using hown) (Below.refl _ _)
    | some ad =>
      refine wpList_append_own _ hg s y 34 hop base 5 i0 (.int .u8 0) 1 1 Try.underlying34 hi hz0 hz1 hz2 rfl (by decide) v n _ hs hown.1 ad 0 c [] hx (by simp) (by simp) (by simp) (by unfold maxLen; omega) (by omega) hb ?_
      intro v' w' h1 h2 _
      exact hK v' w' ⟨by simpa using h1, hown.2.app p5⟩ ((Below.refl base wr).grown h2 hb hrow)

/-- 'append(b, x)', b the call's own, it may grow. -/
theorem push_own (wr : World) (x : Int) (hg : o.guard = none) (s y : Operand) (hop : o.op = Op.call { callee := Callee.builtin Builtin.append, args := #[s, y], argTypes := #[34, 34] })
    (base n : Nat) (v : Value) (l : List Int) (hs : a.eval s = v) (hown : Own base wr v n l) (hb : base ≤ wr.heap.size) (hx : a.eval y = .slice (some ⟨wr.heap.size, 0, none⟩) 1 1) (x0 : 0 ≤ x) (x1 : x ≤ 255) (b1 : n + 1 ≤ 140737488355328)
    (hK : ∀ v' w', Own base w' v' (n + 1) (l ++ [x]) → Below base wr w' → wpList Try.prog ops Q rest (a.put o.dst v') w') :
    wpList Try.prog ops Q (o :: rest) a (wr.alloc (.cells #[.int .u8 x] 5)) := by
  obtain ⟨i0, hi, hz0, hz1, hz2⟩ := info_parts info8
  have hrow : ∀ k, v.ownBlock = some k → base ≤ k := fun k hk => (hown.1.lt k hk).1
  refine wpList_append_own _ hg s y 34 hop base 5 i0 (.int .u8 0) 1 1 Try.underlying34 hi hz0 hz1 hz2 rfl (by decide) v n _ hs (hown.1.alloc _) ⟨wr.heap.size, 0, none⟩ 1 1 [.int .u8 x] hx rfl ?_ ?_ (by unfold maxLen; omega) (by omega) (by simp; omega) ?_
  · intro j u hj
    match j, hj with
    | 0, hj => simp at hj; subst hj; simp [Addr.add]
  · intro u hu; simp at hu; subst hu; rfl
  · intro v' w' h1 h2 _
    exact hK v' w' ⟨by simpa using h1, hown.2.app (BB.one x0 x1)⟩ (((Below.refl base wr).alloc hb _).grown h2 (by simp; omega) hrow)

/-- 'make([]byte, 0, n)'. -/
theorem make8 (wr : World) (hg : o.guard = none) (c : Operand) (hop : o.op = Op.makeSlice 34 (.const (.int .i64 0)) c) (base : Nat) (hb : base ≤ wr.heap.size) (C : Int) (n : Nat) (hc : a.eval c = .int .i64 C) (hC : C = (n : Int)) (hn : n ≤ 281474976710656)
    (hK : ∀ w', Row base w' wr.heap.size 0 n [] → Below base wr w' → wpList Try.prog ops Q rest (a.put o.dst (.slice (some ⟨wr.heap.size, 0, none⟩) 0 n)) w') :
    wpList Try.prog ops Q (o :: rest) a wr := by
  obtain ⟨i0, hi, hz0, hz1, hz2⟩ := info_parts info8
  refine wpList_make_own _ hg (.const (.int .i64 0)) c 34 hop base 5 i0 (.int .u8 0) 1 Try.underlying34 hi hz0 hz1 .i64 .i64 C n rfl hc hC (by rw [hz2]; omega) (by unfold maxLen; omega) hb ?_
  intro w' h1 h2
  exact hK w' ⟨by simpa using h1, BB.nil⟩ ((Below.refl base wr).grown h2 hb (fun k e => by cases e))
end

/-- 'append([]byte{}, ..)': the empty literal. -/
theorem own_lit (w : World) : Own w.heap.size (w.alloc (.cells #[] 5)) (.slice (some ⟨w.heap.size, 0, none⟩) 0 0) 0 [] :=
  ⟨World.ownsRow_made w #[] 0 (Nat.le_refl _) (by unfold maxLen; omega) (by simp), BB.nil⟩
theorem own_one (w : World) (x : Int) (x0 : 0 ≤ x) (x1 : x ≤ 255) : Own w.heap.size (w.alloc (.cells #[.int .u8 x] 5)) (.slice (some ⟨w.heap.size, 0, none⟩) 1 1) 1 [x] :=
  ⟨⟨rfl, .inr ⟨w.heap.size, 1, #[.int .u8 x], rfl, Nat.le_refl _, heap_alloc_new w _, Nat.le_refl _, by unfold maxLen; omega, rfl, rfl⟩⟩, BB.one x0 x1⟩

end Go.Proofs.Ytpkifcoichjnbaa
