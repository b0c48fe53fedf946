/-
  Groups of clients in memory.
-/
import Derived.Test.YtdenhpclopjjgaaHE
import Derived.Test.YtdenhpclopjjgaaGC
namespace Go.Proofs.Ytdenhpclopjjgaa
open Go.RowKit Go.Deep Go.Maps
set_option linter.unusedVariables false

theorem Cl.one (x : Cl) : ∀ u ∈ x.cs, u.oneCell' = true := by
  intro u hu
  simp [Cl.cs] at hu
  rcases hu with rfl | rfl | rfl <;> rfl
theorem infoC : (Try.prog.info? 41).map (fun i => (i.zero, i.size, i.bytes)) = some (some (.agg #[.int .i64 0, .int .i64 0, .int .i64 0]), 3, 24) := by kernel_rfl
theorem sizeC : (Try.prog.info? 41).map (·.size) = some 3 := by kernel_rfl
abbrev HoldsC (w : World) (a : Option Addr) (len cap : Nat) (l : List Cl) : Prop := HoldsE 3 Cl.cs w a len cap l
abbrev OwnC (base : Nat) (w : World) (v : Value) (n : Nat) (l : List Cl) : Prop := OwnE 41 3 Cl.cs base w v n l

/-- But two blocks, all that was there is as it was. -/
structure Tn (gb r : Nat) (w w' : World) : Prop where
  bel : Below 0 w w'
  oth : ∀ k, k < w.heap.size → k ≠ gb → k ≠ r → w'.heap[k]? = w.heap[k]?
theorem Tn.size {gb r : Nat} {w w' : World} (h : Tn gb r w w') : w.heap.size ≤ w'.heap.size := h.bel.size
theorem Tn.refl (gb r : Nat) (w : World) : Tn gb r w w := ⟨Below.refl _ _, fun _ _ _ _ => rfl⟩
theorem Tn.of {gb r : Nat} {w w' : World} (h : Below w.heap.size w w') : Tn gb r w w' := ⟨h.mono (Nat.zero_le _), fun k hk _ _ => h.block k hk⟩
theorem Tn.trans {gb r r' : Nat} {w w' w'' : World} (h : Tn gb r w w') (k : Tn gb r' w' w'') (hr : r' = r ∨ w.heap.size ≤ r') : Tn gb r w w'' :=
  ⟨h.bel.trans k.bel, fun i hi h1 h2 => (k.oth i (Nat.lt_of_lt_of_le hi h.size) h1 (by omega)).trans (h.oth i hi h1 h2)⟩
theorem Tn.step {gb r : Nat} {w w' w'' : World} (h : Tn gb r w w') (k : Below w'.heap.size w' w'') : Tn gb r w w'' := h.trans (Tn.of k) (.inl rfl)
theorem Tn.below {gb r B : Nat} {w w' : World} (h : Tn gb r w w') (h1 : B ≤ gb) (h2 : B ≤ r) (hB : B ≤ w.heap.size) : Below B w w' := ⟨h.bel.os, h.bel.tape, h.bel.output, h.bel.size, fun k hk => h.oth k (by omega) (by omega) (by omega)⟩
theorem Tn.cell {gb r : Nat} {w w' : World} (h : Tn gb r w w') {x o : Nat} {v : Value} (hc : w.cell? ⟨x, o, none⟩ = some v) (h1 : x ≠ gb) (h2 : x ≠ r) : w'.cell? ⟨x, o, none⟩ = some v :=
  (World.cell?_of_block (w := w) (h.oth x (cell_lt hc) h1 h2)).trans hc
theorem Tn.frozen {gb r : Nat} {w w' : World} (h : Tn gb r w w') {x o : Nat} (hx : x < w.heap.size) (h1 : x ≠ gb) (h2 : x ≠ r) : w'.frozen? ⟨x, o, none⟩ = w.frozen? ⟨x, o, none⟩ :=
  World.frozen?_of_block (w := w) (h.oth x hx h1 h2)
theorem Tn.holds {α : Type} {k gb r : Nat} {enc : α → List Value} {w w' : World} {a : Option Addr} {len cap : Nat} {l : List α} (h : Tn gb r w w') (hh : HoldsE k enc w a len cap l) (hm : ∀ x o, a = some ⟨x, o, none⟩ → 0 < len → x ≠ gb ∧ x ≠ r) : HoldsE k enc w' a len cap l := by
  obtain ⟨h1, h2, h3, h4, h5⟩ := hh
  refine ⟨h1, h2, h3, h4, fun hp => ?_⟩
  obtain ⟨x, off, e, hlt, hc⟩ := h5 hp
  exact ⟨x, off, e, Nat.lt_of_lt_of_le hlt h.size, fun j y hy i v hv => h.cell (hc j y hy i v hv) (hm x off e hp).1 (hm x off e hp).2⟩
theorem Tn.setCell {gb r o : Nat} {w : World} {v : Value} {x : Nat} (hx : x = gb ∨ x = r) : Tn gb r w (w.setCell ⟨x, o, none⟩ v) :=
  ⟨(Below.refl 0 w).setCell (p := ⟨x, o, none⟩) (Nat.zero_le _) v, fun k _ h1 h2 => Below.heap_setCell _ _ _ _ (by show k ≠ x; omega)⟩

/-- A row of clients that a block holds. -/
structure RowC (w : World) (r n cap : Nat) (f : Nat → Cl) : Prop where
  le : n ≤ cap
  mx : cap ≤ maxLen
  hp : ∃ cur : Array Value, w.heap[r]? = some (.cells cur 41 (0, 0)) ∧ cur.size = cap * 3
  c0 : ∀ j, j < n → w.cell? ⟨r, j * 3, none⟩ = some (.int .i64 (f j).id)
  c1 : ∀ j, j < n → w.cell? ⟨r, j * 3 + 1, none⟩ = some (.int .i64 (f j).tk)
  c2 : ∀ j, j < n → w.cell? ⟨r, j * 3 + 2, none⟩ = some (.int .i64 (f j).ps)
theorem RowC.lt {w : World} {r n cap : Nat} {f : Nat → Cl} (h : RowC w r n cap f) : r < w.heap.size := by
  obtain ⟨cur, h1, _⟩ := h.hp
  exact (Array.getElem?_eq_some_iff.1 h1).1
theorem RowC.fz {w : World} {r n cap : Nat} {f : Nat → Cl} (h : RowC w r n cap f) (j : Nat) : w.frozen? ⟨r, j, none⟩ = false := by
  obtain ⟨cur, h1, _⟩ := h.hp
  exact frozen_of_row w r j cur _ h1
theorem RowC.congr {w : World} {r n cap : Nat} {f g : Nat → Cl} (h : RowC w r n cap f) (e : ∀ j, j < n → f j = g j) : RowC w r n cap g :=
  ⟨h.le, h.mx, h.hp, fun j hj => by rw [← e j hj]; exact h.c0 j hj, fun j hj => by rw [← e j hj]; exact h.c1 j hj, fun j hj => by rw [← e j hj]; exact h.c2 j hj⟩
theorem RowC.same {w w' : World} {r n cap : Nat} {f : Nat → Cl} (h : RowC w r n cap f) (hb : w'.heap[r]? = w.heap[r]?) : RowC w' r n cap f := by
  have hc : ∀ i, w'.cell? ⟨r, i, none⟩ = w.cell? ⟨r, i, none⟩ := fun i => World.cell?_of_block (w := w) hb
  exact ⟨h.le, h.mx, by obtain ⟨cur, h1, h2⟩ := h.hp; exact ⟨cur, hb.trans h1, h2⟩, fun j hj => (hc _).trans (h.c0 j hj), fun j hj => (hc _).trans (h.c1 j hj), fun j hj => (hc _).trans (h.c2 j hj)⟩
theorem RowC.below {w w' : World} {r n cap : Nat} {f : Nat → Cl} (h : RowC w r n cap f) (hb : Below w.heap.size w w') : RowC w' r n cap f := h.same (hb.block r h.lt)
theorem RowC.isSome {w : World} {r n cap : Nat} {f : Nat → Cl} (h : RowC w r n cap f) {j : Nat} (hj : j < cap * 3) : (w.cell? ⟨r, j, none⟩).isSome = true := by
  obtain ⟨cur, h1, h2⟩ := h.hp
  rw [cell_of_row w r j cur _ (0, 0) h1, Array.getElem?_eq_getElem (by omega)]; rfl
/-- One client replaced, by one store. -/
theorem RowC.put {w : World} {r n cap j : Nat} {f : Nat → Cl} (h : RowC w r n cap f) (hj : j < n) (x : Cl) (i : Nat) (v : Value)
    (hx : (i = 1 ∧ v = .int .i64 x.tk ∧ x.id = (f j).id ∧ x.ps = (f j).ps) ∨ (i = 2 ∧ v = .int .i64 x.ps ∧ x.id = (f j).id ∧ x.tk = (f j).tk)) :
    RowC (w.setCell ⟨r, j * 3 + i, none⟩ v) r n cap (fun k => if k = j then x else f k) := by
  have oth : ∀ p, p ≠ j * 3 + i → (w.setCell ⟨r, j * 3 + i, none⟩ v).cell? ⟨r, p, none⟩ = w.cell? ⟨r, p, none⟩ := fun p hp => World.cell?_setCell_other _ _ _ _ (by intro e; injection e with e1 e2; omega)
  refine ⟨h.le, h.mx, ?_, fun k hk => ?_, fun k hk => ?_, fun k hk => ?_⟩
  · obtain ⟨cur, h1, h2⟩ := h.hp
    exact ⟨_, heap_setCell_same w r _ cur _ v h1, by simpa using h2⟩
  · rw [oth _ (by rcases hx with ⟨rfl, _⟩ | ⟨rfl, _⟩ <;> omega), h.c0 k hk]
    split
    · rename_i e; subst e; rcases hx with ⟨_, _, e, _⟩ | ⟨_, _, e, _⟩ <;> rw [e]
    · rfl
  · by_cases e : k = j
    · subst e
      rw [if_pos rfl]
      rcases hx with ⟨rfl, rfl, _, _⟩ | ⟨rfl, _, _, e⟩
      · exact World.cell?_setCell_same _ _ _ (h.c1 k hk)
      · rw [oth _ (by omega), h.c1 k hk, e]
    · rw [if_neg e, oth _ (by rcases hx with ⟨rfl, _⟩ | ⟨rfl, _⟩ <;> omega)]; exact h.c1 k hk
  · by_cases e : k = j
    · subst e
      rw [if_pos rfl]
      rcases hx with ⟨rfl, _, _, e⟩ | ⟨rfl, rfl, _, _⟩
      · rw [oth _ (by omega), h.c2 k hk, e]
      · exact World.cell?_setCell_same _ _ _ (h.c2 k hk)
    · rw [if_neg e, oth _ (by rcases hx with ⟨rfl, _⟩ | ⟨rfl, _⟩ <;> omega)]; exact h.c2 k hk
theorem RowC.at {w : World} {r n cap : Nat} {l : List Cl} (h : RowC w r n cap (ca l)) (hl : l.length = n) : ∀ j x, l[j]? = some x → ∀ i v, (Cl.cs x)[i]? = some v → w.cell? ⟨r, j * 3 + i, none⟩ = some v := by
  intro j x hx i v hv
  have hj : j < l.length := (List.getElem?_eq_some_iff.1 hx).1
  rw [ca_get hj] at hx
  cases hx
  match i, hv with
  | 0, hv => cases hv; exact h.c0 j (by omega)
  | 1, hv => cases hv; exact h.c1 j (by omega)
  | 2, hv => cases hv; exact h.c2 j (by omega)
theorem RowC.holds {w : World} {r n cap : Nat} {l : List Cl} (h : RowC w r n cap (ca l)) (hl : l.length = n) : HoldsC w (some ⟨r, 0, none⟩) n cap l := by
  have := h.mx
  unfold maxLen at this
  refine ⟨hl, h.le, by omega, (fun e => by cases e), fun _ => ⟨r, 0, rfl, h.lt, fun j x hx i v hv => ?_⟩⟩
  rw [Nat.zero_add]; exact h.at hl j x hx i v hv
theorem RowC.own {w : World} {r n cap base : Nat} {l : List Cl} (h : RowC w r n cap (ca l)) (hl : l.length = n) (hb : base ≤ r) : OwnC base w (.slice (some ⟨r, 0, none⟩) n cap) n l := by
  obtain ⟨cur, h1, h2⟩ := h.hp
  have hf : (l.flatMap Cl.cs).length = n * 3 := by rw [flat_len Cl.cs_len, hl]
  have hle := h.le
  refine ⟨hl, hf, .inr ⟨r, cap, cur, rfl, hb, h1, h.le, h.mx, h2, ?_⟩⟩
  refine List.ext_getElem? (fun p => ?_)
  rcases Nat.lt_or_ge p (n * 3) with hp | hp
  · rw [List.getElem?_take, if_pos hp]
    obtain ⟨u, hu⟩ : ∃ u, (l.flatMap Cl.cs)[p]? = some u := ⟨_, List.getElem?_eq_getElem (by omega)⟩
    obtain ⟨j, x, i, rfl, hx, hi⟩ := flat_inv Cl.cs_len l p u hu
    rw [hu, Array.getElem?_toList, ← cell_of_row w r _ cur _ (0, 0) h1]
    exact h.at hl j x hx i u hi
  · rw [List.getElem?_eq_none (by simp; omega), List.getElem?_eq_none (by omega)]
theorem OwnC.row {base n cap : Nat} {w : World} {r : Nat} {l : List Cl} (h : OwnC base w (.slice (some ⟨r, 0, none⟩) n cap) n l) : RowC w r n cap (ca l) := by
  have hl := h.len
  have hh := h.holds Cl.cs_len
  rcases h.2.2 with ⟨hv, _⟩ | ⟨g, cap', cur, hv, hg, hh', hc, hm, hs, ht⟩
  · simp at hv
  · simp at hv
    obtain ⟨rfl, rfl⟩ := hv
    have hcell : ∀ j, j < n → ∀ i v, (Cl.cs (ca l j))[i]? = some v → w.cell? ⟨r, j * 3 + i, none⟩ = some v := fun j hj i v hv => by
      obtain ⟨b, off, e, hlt, hc⟩ := hh.2.2.2.2 (by omega)
      cases e
      have := hc j _ (ca_get (by omega)) i v hv
      rwa [Nat.zero_add] at this
    exact ⟨hc, hm, ⟨cur, hh', hs⟩, fun j hj => hcell j hj 0 _ rfl, fun j hj => hcell j hj 1 _ rfl, fun j hj => hcell j hj 2 _ rfl⟩

/-- A group, and its row. -/
def Grp (w : World) (gb r : Nat) (l : List Cl) : Prop :=
  ∃ a cap, w.heap[gb]? = some (.cells #[.slice a l.length cap] 53 (0, 0)) ∧ ((a = none ∧ l = [] ∧ cap = 0 ∧ r = gb) ∨ (a = some ⟨r, 0, none⟩ ∧ r ≠ gb ∧ RowC w r l.length cap (ca l)))
theorem Grp.lt {w : World} {gb r : Nat} {l : List Cl} (h : Grp w gb r l) : gb < w.heap.size ∧ r < w.heap.size := by
  obtain ⟨a, cap, h1, h2⟩ := h
  have := (Array.getElem?_eq_some_iff.1 h1).1
  rcases h2 with ⟨_, _, _, rfl⟩ | ⟨_, _, h2⟩
  · exact ⟨this, this⟩
  · exact ⟨this, h2.lt⟩
theorem Grp.same {w w' : World} {gb r : Nat} {l : List Cl} (h : Grp w gb r l) (h1 : w'.heap[gb]? = w.heap[gb]?) (h2 : w'.heap[r]? = w.heap[r]?) : Grp w' gb r l := by
  obtain ⟨a, cap, h3, h4⟩ := h
  refine ⟨a, cap, h1.trans h3, ?_⟩
  rcases h4 with h4 | ⟨e, hn, h4⟩
  · exact .inl h4
  · exact .inr ⟨e, hn, h4.same h2⟩
theorem Grp.below {w w' : World} {gb r : Nat} {l : List Cl} (h : Grp w gb r l) (hb : Below w.heap.size w w') : Grp w' gb r l := h.same (hb.block _ h.lt.1) (hb.block _ h.lt.2)
theorem Grp.tn {w w' : World} {gb r gb' r' : Nat} {l : List Cl} (h : Grp w gb r l) (ht : Tn gb' r' w w') (h1 : gb ≠ gb') (h2 : gb ≠ r') (h3 : r ≠ gb') (h4 : r ≠ r') : Grp w' gb r l := h.same (ht.oth _ h.lt.1 h1 h2) (ht.oth _ h.lt.2 h3 h4)
theorem Grp.box {w : World} {gb r : Nat} {l : List Cl} (h : Grp w gb r l) : ∃ a cap, w.cell? ⟨gb, 0, none⟩ = some (.slice a l.length cap) ∧ w.frozen? ⟨gb, 0, none⟩ = false ∧ HoldsC w a l.length cap l ∧ (a = none ∨ a = some ⟨r, 0, none⟩) := by
  obtain ⟨a, cap, h1, h2⟩ := h
  refine ⟨a, cap, by rw [cell_of_row w gb 0 _ _ (0, 0) h1]; rfl, frozen_of_row w gb 0 _ _ h1, ?_, ?_⟩
  · rcases h2 with ⟨rfl, rfl, rfl, _⟩ | ⟨rfl, hn, h2⟩
    · exact ⟨rfl, Nat.le_refl _, Nat.zero_le _, fun _ => ⟨rfl, rfl⟩, fun h => absurd h (by simp)⟩
    · exact h2.holds rfl
  · rcases h2 with ⟨rfl, _⟩ | ⟨rfl, _⟩
    · exact .inl rfl
    · exact .inr rfl
theorem Grp.row {w : World} {gb r : Nat} {l : List Cl} (h : Grp w gb r l) (hp : 0 < l.length) : ∃ cap, w.cell? ⟨gb, 0, none⟩ = some (.slice (some ⟨r, 0, none⟩) l.length cap) ∧ r ≠ gb ∧ RowC w r l.length cap (ca l) := by
  obtain ⟨a, cap, h1, h2⟩ := h
  rcases h2 with ⟨_, rfl, _⟩ | ⟨rfl, hn, h2⟩
  · simp at hp
  · exact ⟨cap, by rw [cell_of_row w gb 0 _ _ (0, 0) h1]; rfl, hn, h2⟩
/-- The row has turned, the group's own cell stands. -/
theorem Grp.turn {w w' : World} {gb r cap : Nat} {l m : List Cl} (h : Grp w gb r l) (hp : 0 < l.length) (hb : w'.heap[gb]? = w.heap[gb]?) (hc : w.cell? ⟨gb, 0, none⟩ = some (.slice (some ⟨r, 0, none⟩) l.length cap)) (hl : m.length = l.length) (hr : RowC w' r l.length cap (ca m)) : Grp w' gb r m := by
  obtain ⟨a, cap', h1, h2⟩ := h
  rw [cell_of_row w gb 0 _ _ (0, 0) h1] at hc
  cases hc
  rcases h2 with ⟨e, _⟩ | ⟨_, hn, h2⟩
  · cases e
  · exact ⟨_, cap, by rw [hl]; exact hb.trans h1, .inr ⟨rfl, hn, by rw [hl]; exact hr⟩⟩
/-- A new slice is stored. -/
theorem Grp.stored {w w' : World} {gb r r' cap : Nat} {l m : List Cl} (h : Grp w gb r l) (hb : w'.heap[gb]? = w.heap[gb]?) (hn : r' ≠ gb) (hr : RowC w' r' m.length cap (ca m)) : Grp (w'.setCell ⟨gb, 0, none⟩ (.slice (some ⟨r', 0, none⟩) m.length cap)) gb r' m := by
  obtain ⟨a, cap', h1, h2⟩ := h
  refine ⟨_, cap, heap_setCell_same w' gb 0 _ _ _ (hb.trans h1), .inr ⟨rfl, hn, hr.same (Below.heap_setCell _ _ _ _ (by simpa using hn))⟩⟩

end Go.Proofs.Ytdenhpclopjjgaa
