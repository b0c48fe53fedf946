/-
  Arguments opened: lists of queues and of uses, queues.
-/
import Derived.Test.YtikalkigmnipiaaQL
import Derived.Test.YtikalkigmnipiaaQM
import Derived.Deep.Slices
namespace Go.Proofs.Ytikalkigmnipiaa
open Go.ChangeShapes Go.WideShapes Go.ChangeAt Go.RowKit Go.Deep
set_option linter.unusedVariables false

/-- A use. -/
structure Us where
  qu : Int
  uc : Int
  um : Int
def Us.cs (u : Us) : List Value := [.int .i64 u.qu, .int .i64 u.uc, .int .i64 u.um]
def Us.ok (u : Us) : Prop := I64 u.qu ∧ I64 u.uc ∧ I64 u.um
theorem Us.cs_len (u : Us) : u.cs.length = 3 := rfl
theorem Us.one (x : Us) : ∀ u ∈ x.cs, u.oneCell' = true := by
  intro u hu
  simp [Us.cs] at hu
  rcases hu with rfl | rfl | rfl <;> rfl
abbrev HoldsU (w : World) (a : Option Addr) (len cap : Nat) (l : List Us) : Prop := HoldsE 3 Us.cs w a len cap l

theorem cell_spot {w : World} {a : Addr} {v : Value} (h : w.cell? a = some v) : a.spot = none := by
  unfold World.cell? at h
  split at h
  · rename_i c e f hb
    cases hs : a.spot with
    | none => rfl
    | some x => simp [hs] at h
  · simp at h

section
variable {H : Type} {enc : TypeId × Value → H} {w : World} {base b0 : Nat} {spare : Nat → Bool} {held : Bool} {r : Reach} {v : Value} {d : DataW H} {p : List MemPlace} {fuel : Nat} {cs : List Value} {x : DataW H × List MemPlace}

set_option maxRecDepth 100000 in
theorem trod_vec (h : DataW.trod enc Try.prog w base spare held fuel 25 cs = some x) : ∃ a b, cs = [.int .i64 a, .int .i64 b] ∧ I64 a ∧ I64 b := by
  obtain ⟨xs, n, _, _, hl, hx, hf⟩ := DataW.trod_struct Try.underlying25 h
  have hc : Try.prog.cellsOf 25 = 2 := by kernel_rfl
  have hc1 : Try.prog.cellsOf 2 = 1 := by kernel_rfl
  rw [hc] at hl
  match cs, hl with
  | [c0, c1], _ =>
    have f0 := hf 0 _ rfl
    have f1 := hf 1 _ rfl
    simp only [List.getElem_toArray, List.getElem_cons_zero, List.getElem_cons_succ] at f0 f1
    rw [hc1] at f0 f1
    rw [List.getElem?_eq_getElem (by rw [hx]; decide)] at f0 f1
    obtain ⟨a, e0, _, w0⟩ := DataW.trod_int Try.underlying2 f0
    obtain ⟨b, e1, _, w1⟩ := DataW.trod_int Try.underlying2 f1
    simp at e0 e1
    subst e0 e1
    exact ⟨a, b, rfl, bounds_i64 w0, bounds_i64 w1⟩

set_option maxRecDepth 100000 in
/-- A list of things of k cells each that came in. -/
theorem val_rowE {α : Type} {k : Nat} {en : α → List Value} {ok : α → Prop} {t e : TypeId} {a : Option Addr} {len cap : Nat} [Inhabited α] (ht : Try.prog.underlying t = some (.slice e)) (hc : Try.prog.cellsOf e = k) (hk : ∀ x, (en x).length = k) (hk0 : 0 < k)
    (he : ∀ fuel cs x, DataW.trod enc Try.prog w base (fun _ => true) held fuel e cs = some x → ∃ q : α, cs = en q ∧ ok q)
    (h : DataW.Trod enc Try.prog w base (fun _ => true) held t (.slice a len cap) d p) : ∃ l : List α, HoldsE k en w a len cap l ∧ (∀ q ∈ l, ok q) ∧ DRow d cap := by
  obtain ⟨fuel, hf⟩ := h
  rcases open_slice ht hf with ⟨hcs, _⟩ | ⟨x, l, c, m, n, D, Pl, hcs, _, hl, hm, hmm, hx, hi⟩
  · simp [Value.cells] at hcs
    obtain ⟨rfl, rfl, rfl⟩ := hcs
    exact ⟨[], ⟨rfl, by omega, by omega, fun _ => ⟨rfl, rfl⟩, fun h => absurd h (by omega)⟩, (fun q hq => by cases hq), .inl rfl⟩
  · simp [Value.cells] at hcs
    obtain ⟨rfl, rfl, rfl⟩ := hcs
    simp only [if_true] at hmm
    subst hmm
    rw [hc] at hi
    have hg : ∀ i, i < len → ∃ q : α, ok q ∧ ∀ j u, (en q)[j]? = some u → w.cell? (x.add (i * k + j)) = some u := fun i hlt => by
      obtain ⟨cs', h1, h2⟩ := hi i (by omega)
      obtain ⟨q, e1, hq⟩ := he _ _ _ h2
      obtain ⟨_, h3, h4⟩ := World.cells?_some h1
      refine ⟨q, hq, fun j u hu => ?_⟩
      have hj : j < k := by have := (List.getElem?_eq_some_iff.1 hu).1; rw [hk] at this; exact this
      have := h4 j hj
      rw [Go.Deep.add_add, e1, hu] at this
      exact this
    have hcase : ∃ f : Nat → α, ∀ i, i < len → ok (f i) ∧ ∀ j u, (en (f i))[j]? = some u → w.cell? (x.add (i * k + j)) = some u := by
      refine ⟨fun i => if h : i < len then (hg i h).choose else default, fun i hlt => ?_⟩
      simp only [dif_pos hlt]
      exact (hg i hlt).choose_spec
    obtain ⟨f, hf2⟩ := hcase
    unfold maxLen at hm
    refine ⟨(List.range len).map f, ⟨by simp, hl, by omega, (fun h => by cases h), fun hp => ?_⟩, ?_, .inr ⟨_, _, (congrArg Prod.fst hx), by simp; omega⟩⟩
    · have h0 := (hf2 0 hp).2 0 ((en (f 0))[0]'(by rw [hk]; exact hk0)) (List.getElem?_eq_getElem _)
      have hsp := cell_spot h0
      obtain ⟨b, o, s⟩ := x
      have hs : s = none := by
        cases s with
        | none => rfl
        | some y => simp [Addr.add] at hsp
      subst hs
      refine ⟨b, o, rfl, ?_, fun j y hy i u hu => ?_⟩
      · have := World.block_lt_of_cell? w _ h0
        simpa [Addr.add] using this
      · have hj : j < len := by have := (List.getElem?_eq_some_iff.1 hy).1; simpa using this
        rw [List.getElem?_map, List.getElem?_range hj] at hy
        simp at hy
        subst hy
        have := (hf2 j hj).2 i u hu
        rw [Addr.add_lit, ← Nat.add_assoc] at this
        exact this
    · intro q hq
      obtain ⟨i, hi1, rfl⟩ := List.mem_map.1 hq
      exact (hf2 i (by simpa using hi1)).1
end
instance : Inhabited Qu := ⟨q0⟩
instance : Inhabited Us := ⟨⟨0, 0, 0⟩⟩

end Go.Proofs.Ytikalkigmnipiaa
