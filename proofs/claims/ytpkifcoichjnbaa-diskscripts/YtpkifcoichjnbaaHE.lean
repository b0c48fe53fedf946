/-
  Slices of things of several cells each: what they read as, what a call owns, append; slices of numbers: alike? is it there?
-/
import Derived.Test.YtpkifcoichjnbaaOpenS
import Derived.WalkKit
import Derived.WalkSpells
import Derived.WalkLawsBesides
import Derived.WalkSmall
import Derived.Deep.RegionWith
import Derived.Laws.StructEq
import Derived.RangeFuncNested
import Derived.RangeFuncBound
import Derived.RangeFuncCalls
import Derived.RangeFuncLeaves
import Derived.RangeFuncBox
import Derived.OwnWalk
import Derived.OwnWalkIn
import Derived.Laws.AppendOwnNone
import Derived.Maps.OwnIn
import Derived.Maps.OwnOps
import Derived.BigQuiet
import Derived.Deep.Slices
namespace Go.Proofs.Ytpkifcoichjnbaa
open Go.RowKit Go.Deep Go.Maps
set_option linter.unusedVariables false

section
variable {α : Type} {k : Nat} {enc : α → List Value}

theorem flat_len (hk : ∀ x, (enc x).length = k) (l : List α) : (l.flatMap enc).length = l.length * k := by
  induction l with
  | nil => simp
  | cons x l ih => simp only [List.flatMap_cons, List.length_append, ih, hk, List.length_cons, Nat.succ_mul]; omega
theorem flat_get (hk : ∀ x, (enc x).length = k) : ∀ (l : List α) (j : Nat) (x : α) (i : Nat) (v : Value), l[j]? = some x → (enc x)[i]? = some v → (l.flatMap enc)[j * k + i]? = some v := by
  intro l
  induction l with
  | nil => intro j x i v h; simp at h
  | cons y l ih =>
    intro j x i v h hv
    have hi : i < k := by have := (List.getElem?_eq_some_iff.1 hv).1; rw [hk] at this; exact this
    rw [List.flatMap_cons]
    cases j with
    | zero =>
      simp at h
      subst h
      rw [List.getElem?_append_left (by rw [hk]; omega)]
      simpa using hv
    | succ j =>
      rw [List.getElem?_append_right (by rw [hk, Nat.succ_mul]; omega), hk]
      rw [show (j + 1) * k + i - k = j * k + i by rw [Nat.succ_mul]; omega]
      exact ih j x i v (by simpa using h) hv
theorem flat_inv (hk : ∀ x, (enc x).length = k) : ∀ (l : List α) (p : Nat) (u : Value), (l.flatMap enc)[p]? = some u → ∃ j x i, p = j * k + i ∧ l[j]? = some x ∧ (enc x)[i]? = some u := by
  intro l
  induction l with
  | nil => intro p u h; simp at h
  | cons y l ih =>
    intro p u h
    rw [List.flatMap_cons] at h
    rcases Nat.lt_or_ge p k with hp | hp
    · rw [List.getElem?_append_left (by rw [hk]; omega)] at h
      exact ⟨0, y, p, by omega, rfl, h⟩
    · rw [List.getElem?_append_right (by rw [hk]; omega), hk] at h
      obtain ⟨j, x, i, e, hx, hu⟩ := ih _ _ h
      exact ⟨j + 1, x, i, by rw [Nat.succ_mul]; omega, by simpa using hx, hu⟩

/-- What a slice of things of k cells each reads as. -/
def HoldsE (k : Nat) (enc : α → List Value) (w : World) (a : Option Addr) (len cap : Nat) (l : List α) : Prop :=
  l.length = len ∧ len ≤ cap ∧ cap ≤ 9223372036854775807 ∧ (a = none → len = 0 ∧ cap = 0) ∧
  (0 < len → ∃ b off, a = some ⟨b, off, none⟩ ∧ b < w.heap.size ∧ ∀ j x, l[j]? = some x → ∀ i v, (enc x)[i]? = some v → w.cell? ⟨b, off + j * k + i, none⟩ = some v)
theorem HoldsE.len {w : World} {a : Option Addr} {len cap : Nat} {l : List α} (h : HoldsE k enc w a len cap l) : l.length = len := h.1
theorem HoldsE.below {w w' : World} {a : Option Addr} {len cap : Nat} {l : List α} (h : HoldsE k enc w a len cap l) (hb : Below w.heap.size w w') : HoldsE k enc w' a len cap l := by
  obtain ⟨h1, h2, h3, h4, h5⟩ := h
  refine ⟨h1, h2, h3, h4, fun hp => ?_⟩
  obtain ⟨b, off, e, hlt, hc⟩ := h5 hp
  exact ⟨b, off, e, Nat.lt_of_lt_of_le hlt hb.size, fun j x hx i v hv => keepc hb (hc j x hx i v hv)⟩

/-- What the call owns, from block 'base' on: nil, or a row. -/
def OwnE (e : TypeId) (k : Nat) (enc : α → List Value) (base : Nat) (w : World) (v : Value) (n : Nat) (l : List α) : Prop := l.length = n ∧ w.ownsRow base e k v n (l.flatMap enc)
section
variable {e : TypeId} {base : Nat} {w w' : World} {v : Value} {n : Nat} {l : List α}
theorem OwnE.len (h : OwnE e k enc base w v n l) : l.length = n := h.1
theorem OwnE.form (h : OwnE e k enc base w v n l) : ∃ a cap, v = .slice a n cap := by
  rcases h.2.2 with ⟨rfl, rfl⟩ | ⟨g, cap, cur, rfl, _⟩
  · exact ⟨none, 0, rfl⟩
  · exact ⟨_, _, rfl⟩
theorem OwnE.holds {a : Option Addr} {cap : Nat} (hk : ∀ x, (enc x).length = k) (h : OwnE e k enc base w (.slice a n cap) n l) : HoldsE k enc w a n cap l := by
  have hl := h.len
  rcases h.2.2 with ⟨hv, hn⟩ | ⟨g, cap', cur, hv, hg, hh, hc, hm, hs, ht⟩
  · simp at hv
    obtain ⟨rfl, rfl, rfl⟩ := hv
    exact ⟨hl, by omega, by omega, fun _ => ⟨rfl, rfl⟩, fun h => absurd h (by omega)⟩
  · simp at hv
    obtain ⟨rfl, rfl⟩ := hv
    unfold maxLen at hm
    refine ⟨hl, hc, by omega, fun h => by simp at h, fun hp => ⟨g, 0, rfl, (Array.getElem?_eq_some_iff.1 hh).1, fun j x hx i u hu => ?_⟩⟩
    have := h.2.cells (g := g) rfl _ _ (flat_get hk l j x i u hx hu)
    rw [Addr.add_lit, ← Nat.add_assoc] at this
    exact this
theorem OwnE.lt (h : OwnE e k enc base w v n l) : ∀ g, v.ownBlock = some g → base ≤ g ∧ g < w.heap.size := h.2.lt
theorem OwnE.below (h : OwnE e k enc base w v n l) (hb : Below w.heap.size w w') : OwnE e k enc base w' v n l := by
  obtain ⟨h0, h1, h2⟩ := h
  refine ⟨h0, h1, ?_⟩
  rcases h2 with h2 | ⟨g, cap, cur, hv, hg, hh, r⟩
  · exact .inl h2
  · refine .inr ⟨g, cap, cur, hv, hg, ?_, r⟩
    rw [hb.block g (Array.getElem?_eq_some_iff.1 hh).1]
    exact hh
theorem OwnE.weaken {b' : Nat} (h : OwnE e k enc base w v n l) (hb : b' ≤ base) : OwnE e k enc b' w v n l := by
  obtain ⟨h0, h1, h2⟩ := h
  refine ⟨h0, h1, ?_⟩
  rcases h2 with h2 | ⟨g, cap, cur, hv, hg, r⟩
  · exact .inl h2
  · exact .inr ⟨g, cap, cur, hv, by omega, r⟩
theorem OwnE.nil (e : TypeId) (k : Nat) (enc : α → List Value) (base : Nat) (w : World) : OwnE e k enc base w (.slice none 0 0) 0 [] := ⟨rfl, World.ownsRow_nil _ _ _ _⟩
theorem OwnE.lit (e : TypeId) (k : Nat) (enc : α → List Value) (w : World) : OwnE e k enc w.heap.size (w.alloc (.cells #[] e)) (.slice (some ⟨w.heap.size, 0, none⟩) 0 0) 0 [] :=
  ⟨rfl, World.ownsRow_made w #[] 0 (Nat.le_refl _) (by unfold maxLen; omega) (by simp)⟩
end

section
variable {ops : Array Oper} {rest : List Oper} {o : Oper} {a : Act} {Q : Exit → Act → World → Prop}

/-- 'append(b, p...)', b the call's own, it may grow. -/
theorem cat_ownE (T e : TypeId) (z : Value) (bytes : Nat) (hk : ∀ x, (enc x).length = k) (h1 : ∀ x, ∀ u ∈ enc x, u.oneCell' = true) (hT : Try.prog.underlying T = some (.slice e)) (hI : (Try.prog.info? e).map (fun i => (i.zero, i.size, i.bytes)) = some (some z, k, bytes)) (hz : z.cells.size = k) (hk0 : 0 < k)
    (wr : World) (hg : o.guard = none) (s y : Operand) (hop : o.op = Op.call { callee := Callee.builtin Builtin.append, args := #[s, y], argTypes := #[T, T] })
    (base n : Nat) (v : Value) (l : List α) (hs : a.eval s = v) (hown : OwnE e k enc base wr v n l) (hb : base ≤ wr.heap.size) (ao : Option Addr) (m c : Nat) (p : List α) (hx : a.eval y = .slice ao m c) (hp : HoldsE k enc wr ao m c p) (b0 : n + m ≤ 9223372036854775807) (b1 : (n + m) * bytes ≤ 140737488355328)
    (hK : ∀ v' w', OwnE e k enc base w' v' (n + m) (l ++ p) → Below base wr w' → wr.grownBy w' v.ownBlock → wpList Try.prog ops Q rest (a.put o.dst v') w') :
    wpList Try.prog ops Q (o :: rest) a wr := by
  obtain ⟨i0, hi, hz0, hz1, hz2⟩ := info_parts hI
  obtain ⟨p1, p2, p3, p6, p7⟩ := hp
  have hrow : ∀ g, v.ownBlock = some g → base ≤ g := fun g hk => (hown.lt g hk).1
  by_cases hm : 0 < m
  · obtain ⟨b, off, rfl, hlt, hc⟩ := p7 hm
    refine wpList_append_own _ hg s y T hop base e i0 z k bytes hT hi hz0 hz1 hz2 hz hk0 v n _ hs hown.2 ⟨b, off, none⟩ m c (p.flatMap enc) hx (by rw [flat_len hk, p1]) ?_ ?_ (by unfold maxLen; omega) b1 hb ?_
    · intro j u hj
      obtain ⟨j', x, i, rfl, hx, hu⟩ := flat_inv hk _ _ _ hj
      rw [Addr.add_lit, ← Nat.add_assoc]
      exact hc j' x hx i u hu
    · intro u hu
      obtain ⟨x, _, hx⟩ := List.mem_flatMap.1 hu
      exact h1 x u hx
    · intro v' w' h1 h2 _
      exact hK v' w' ⟨by simp [hown.len, p1], by simpa using h1⟩ ((Below.refl base wr).grown h2 hb hrow) h2
  · obtain rfl : m = 0 := by omega
    obtain rfl : p = [] := List.length_eq_zero_iff.1 p1
    cases ao with
    | none =>
      obtain ⟨_, rfl⟩ := p6 rfl
      refine wpList_append_own_none hg s y T hop base e i0 k hT hi v n _ hs hown.2 hx ?_
      exact hK v wr (by simpa using hown) (Below.refl _ _) (World.grownBy.refl _ _)
    | some ad =>
      refine wpList_append_own _ hg s y T hop base e i0 z k bytes hT hi hz0 hz1 hz2 hz hk0 v n _ hs hown.2 ad 0 c [] hx (by simp) (by simp) (by simp) (by unfold maxLen; omega) b1 hb ?_
      intro v' w' h1 h2 _
      exact hK v' w' ⟨by simp [hown.len], by simpa using h1⟩ ((Below.refl base wr).grown h2 hb hrow) h2

/-- 'append(b, x)', b the call's own, it may grow; x lies in a block of its own, laid just now. -/
theorem push_ownE (T e : TypeId) (z : Value) (bytes : Nat) (hk : ∀ x, (enc x).length = k) (h1 : ∀ x, ∀ u ∈ enc x, u.oneCell' = true) (hT : Try.prog.underlying T = some (.slice e)) (hI : (Try.prog.info? e).map (fun i => (i.zero, i.size, i.bytes)) = some (some z, k, bytes)) (hz : z.cells.size = k) (hk0 : 0 < k)
    (wr : World) (x : α) (hg : o.guard = none) (s y : Operand) (hop : o.op = Op.call { callee := Callee.builtin Builtin.append, args := #[s, y], argTypes := #[T, T] })
    (base n : Nat) (v : Value) (l : List α) (cs : Array Value) (hcs : cs.toList = enc x) (hs : a.eval s = v) (hown : OwnE e k enc base wr v n l) (hb : base ≤ wr.heap.size) (hx : a.eval y = .slice (some ⟨wr.heap.size, 0, none⟩) 1 1) (b0 : n + 1 ≤ 9223372036854775807) (b1 : (n + 1) * bytes ≤ 140737488355328)
    (hK : ∀ v' w', OwnE e k enc base w' v' (n + 1) (l ++ [x]) → Below base wr w' → wr.grownBy w' v.ownBlock → wpList Try.prog ops Q rest (a.put o.dst v') w') :
    wpList Try.prog ops Q (o :: rest) a (wr.alloc (.cells cs e)) := by
  obtain ⟨i0, hi, hz0, hz1, hz2⟩ := info_parts hI
  have hrow : ∀ g, v.ownBlock = some g → base ≤ g := fun g hk => (hown.lt g hk).1
  refine wpList_append_own _ hg s y T hop base e i0 z k bytes hT hi hz0 hz1 hz2 hz hk0 v n _ hs (hown.2.alloc _) ⟨wr.heap.size, 0, none⟩ 1 1 (enc x) hx (by rw [hk]; omega) ?_ (h1 x) (by unfold maxLen; omega) b1 (by simp; omega) ?_
  · intro j u hj
    rw [Addr.add_lit, Nat.zero_add]
    rw [cell_of_row _ wr.heap.size j cs e (0, 0) (heap_alloc_new wr _)]
    rw [← Array.getElem?_toList, hcs]
    exact hj
  · intro v' w' h1 h2 _
    have h3 := (World.grownBy_alloc wr (.cells cs e) v.ownBlock).trans h2
    exact hK v' w' ⟨by simp [hown.len], by simpa using h1⟩ (((Below.refl base wr).alloc hb _).grown h2 (by simp; omega) hrow) h3
end
end

/-- 'append', kept folded. -/
def appF (ats : Array TypeId) (ty : TypeId) (args : Array Value) : Sem Value := Builtin.append_ ats ty args
theorem appF_eq (ats : Array TypeId) (ty : TypeId) (args : Array Value) : Builtin.append_ ats ty args = appF ats ty args := rfl
/-- A number's cell. -/
def encN (x : Int) : List Value := [.int .i64 x]
theorem encN_len (x : Int) : (encN x).length = 1 := rfl
theorem infoN : (Try.prog.info? 3).map (fun i => (i.zero, i.size, i.bytes)) = some (some (.int .i64 0), 1, 8) := by kernel_rfl
abbrev OwnN (base : Nat) (w : World) (v : Value) (n : Nat) (l : List Int) : Prop := OwnE 3 1 encN base w v n l
abbrev HoldsN (w : World) (a : Option Addr) (len cap : Nat) (l : List Int) : Prop := HoldsE 1 encN w a len cap l

theorem keepsOthers_grown {W W' : World} {row : Option Nat} (h : W.grownBy W' row) (hr : ∀ g, row = some g → ∃ o : Obj, W.heap[g]? = some o ∧ o.isCells = true) : KeepsOthers W W' := by
  refine ⟨h.size, fun k o hk ho => ?_⟩
  have hlt := (Array.getElem?_eq_some_iff.1 hk).1
  rw [h.block k hlt (fun e => ?_)]
  · exact hk
  · obtain ⟨o', h1, h2⟩ := hr k e.symm
    rw [hk] at h1
    cases h1
    rw [ho] at h2; cases h2
theorem ownsRow_cells {w : World} {base : Nat} {e : TypeId} {size : Nat} {v : Value} {n : Nat} {xs : List Value} (h : w.ownsRow base e size v n xs) : ∀ g, v.ownBlock = some g → ∃ o : Obj, w.heap[g]? = some o ∧ o.isCells = true := by
  intro g hg
  rcases h.2 with ⟨rfl, _⟩ | ⟨g', cap, cur, rfl, hb, hh, _⟩
  · simp [Value.ownBlock] at hg
  · simp [Value.ownBlock] at hg
    subst hg
    exact ⟨_, hh, rfl⟩
theorem OwnE.own {α : Type} {e : TypeId} {k : Nat} {enc : α → List Value} {base n : Nat} {l : List α} {v : Value} {A B : World} {row : Option Nat} (h : OwnE e k enc base A v n l) (hg : A.grownBy B row) (hr : ∀ r, row = some r → ∃ o : Obj, A.heap[r]? = some o ∧ o.isCells = false) : OwnE e k enc base B v n l := by
  refine ⟨h.1, h.2.kept hg ?_⟩
  cases hv : v.ownBlock with
  | none => exact .inl rfl
  | some g =>
    refine .inr (fun e => ?_)
    obtain ⟨o, h1, h2⟩ := ownsRow_cells h.2 g hv
    obtain ⟨o', h3, h4⟩ := hr g e.symm
    rw [h1] at h3; cases h3
    rw [h2] at h4; cases h4

theorem keepb {w w' : World} {a : Addr} {v : Value} (hb : Below w.heap.size w w') (h : w.cell? a = some v) : w'.cell? a = some v := keepc hb h
theorem HoldsE.rowN {w : World} {a : Option Addr} {len cap : Nat} {l : List Int} (h : HoldsN w a len cap l) (hp : 0 < len) : ∃ b off, a = some ⟨b, off, none⟩ ∧ ∀ j, j < len → w.cell? ⟨b, off + j, none⟩ = some (.int .i64 (l[j]?.getD 0)) := by
  obtain ⟨h1, h2, h3, h4, h5⟩ := h
  obtain ⟨b, off, e, hlt, hc⟩ := h5 hp
  refine ⟨b, off, e, fun j hj => ?_⟩
  have := hc j (l[j]?.getD 0) (by rw [List.getElem?_eq_getElem (by omega)]; rfl) 0 _ rfl
  simpa using this

/-- Is a number among these? -/
def hasN (l : List Int) (x : Int) : Bool := l.any (fun y => decide (y = x))
theorem hasN_iff {l : List Int} {x : Int} : hasN l x = true ↔ x ∈ l := by unfold hasN; simp
theorem hasN_yes {l : List Int} {x : Int} {k : Nat} (h : k < l.length) (e : l[k]?.getD 0 = x) : hasN l x = true := by
  rw [hasN_iff, ← e, List.getElem?_eq_getElem h]
  exact List.getElem_mem _
theorem hasN_no {l : List Int} {x : Int} (h : ∀ k, k < l.length → l[k]?.getD 0 ≠ x) : hasN l x = false := by
  cases hh : hasN l x
  · rfl
  · obtain ⟨k, hk, e⟩ := List.getElem_of_mem (hasN_iff.1 hh)
    exact absurd (by rw [List.getElem?_eq_getElem hk]; exact e) (h k hk)

theorem cell_spot {w : World} {a : Addr} {v : Value} (h : w.cell? a = some v) : a.spot = none := by
  unfold World.cell? at h
  split at h
  · rename_i c e f hb
    cases hs : a.spot with
    | none => rfl
    | some x => simp [hs] at h
  · simp at h

section
open Go.ChangeShapes Go.WideShapes Go.ChangeAt
variable {H : Type} {enc : TypeId × Value → H} {w : World} {base b0 : Nat} {spare : Nat → Bool} {held : Bool} {r : Reach} {v : Value} {d : DataW H} {p : List MemPlace} {fuel : Nat} {cs : List Value} {x : DataW H × List MemPlace}

set_option maxRecDepth 100000 in
/-- A list of things of k cells each that came in. -/
theorem val_rowE {α : Type} {k : Nat} {en : α → List Value} {ok : α → Prop} {t e : TypeId} {a : Option Addr} {len cap : Nat} [Inhabited α] (ht : Try.prog.underlying t = some (.slice e)) (hc : Try.prog.cellsOf e = k) (hk : ∀ x, (en x).length = k) (hk0 : 0 < k)
    (he : ∀ fuel cs x, DataW.trod enc Try.prog w base (fun _ => true) held fuel e cs = some x → ∃ q : α, cs = en q ∧ ok q)
    (h : DataW.Trod enc Try.prog w base (fun _ => true) held t (.slice a len cap) d p) : ∃ l : List α, HoldsE k en w a len cap l ∧ (∀ q ∈ l, ok q) ∧ DRow d cap := by
  obtain ⟨fuel, hf⟩ := h
  rcases open_slice ht hf with ⟨hcs, _⟩ | ⟨x, l, c, m, n, D, Pl, hcs, _, hl, hm, hmm, hx, hi⟩
  · simp [Value.cells] at hcs
    obtain ⟨rfl, rfl, rfl⟩ := hcs
    exact ⟨[], ⟨rfl, by omega, by omega, fun _ => ⟨rfl, rfl⟩, fun h => absurd h (by omega)⟩, (fun q hq => by cases hq), .inl rfl⟩
  · simp [Value.cells] at hcs
    obtain ⟨rfl, rfl, rfl⟩ := hcs
    simp only [if_true] at hmm
    subst hmm
    rw [hc] at hi
    have hg : ∀ i, i < len → ∃ q : α, ok q ∧ ∀ j u, (en q)[j]? = some u → w.cell? (x.add (i * k + j)) = some u := fun i hlt => by
      obtain ⟨cs', h1, h2⟩ := hi i (by omega)
      obtain ⟨q, e1, hq⟩ := he _ _ _ h2
      obtain ⟨_, h3, h4⟩ := World.cells?_some h1
      refine ⟨q, hq, fun j u hu => ?_⟩
      have hj : j < k := by have := (List.getElem?_eq_some_iff.1 hu).1; rw [hk] at this; exact this
      have := h4 j hj
      rw [Go.Deep.add_add, e1, hu] at this
      exact this
    have hcase : ∃ f : Nat → α, ∀ i, i < len → ok (f i) ∧ ∀ j u, (en (f i))[j]? = some u → w.cell? (x.add (i * k + j)) = some u := by
      refine ⟨fun i => if h : i < len then (hg i h).choose else default, fun i hlt => ?_⟩
      simp only [dif_pos hlt]
      exact (hg i hlt).choose_spec
    obtain ⟨f, hf2⟩ := hcase
    unfold maxLen at hm
    refine ⟨(List.range len).map f, ⟨by simp, hl, by omega, (fun h => by cases h), fun hp => ?_⟩, ?_, .inr ⟨_, _, (congrArg Prod.fst hx), by simp; omega⟩⟩
    · have h0 := (hf2 0 hp).2 0 ((en (f 0))[0]'(by rw [hk]; exact hk0)) (List.getElem?_eq_getElem _)
      have hsp := cell_spot h0
      obtain ⟨b, o, s⟩ := x
      have hs : s = none := by
        cases s with
        | none => rfl
        | some y => simp [Addr.add] at hsp
      subst hs
      refine ⟨b, o, rfl, ?_, fun j y hy i u hu => ?_⟩
      · have := World.block_lt_of_cell? w _ h0
        simpa [Addr.add] using this
      · have hj : j < len := by have := (List.getElem?_eq_some_iff.1 hy).1; simpa using this
        rw [List.getElem?_map, List.getElem?_range hj] at hy
        simp at hy
        subst hy
        have := (hf2 j hj).2 i u hu
        rw [Addr.add_lit, ← Nat.add_assoc] at this
        exact this
    · intro q hq
      obtain ⟨i, hi1, rfl⟩ := List.mem_map.1 hq
      exact (hf2 i (by simpa using hi1)).1
end

end Go.Proofs.Ytpkifcoichjnbaa
