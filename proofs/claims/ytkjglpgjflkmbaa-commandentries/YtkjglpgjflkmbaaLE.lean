/-
  Leases: in memory, and as they come in.
-/
import Derived.Test.YtkjglpgjflkmbaaHE
namespace Go.Proofs.Ytkjglpgjflkmbaa
open Go.RowKit Go.Deep Go.Maps
set_option linter.unusedVariables false
set_option linter.unusedSimpArgs false

/-- A lease, with what its cores read as. -/
structure Le where
  ta : Int
  qu : Int
  no : Int
  sa : Option Addr
  sl : Nat
  sc : Nat
  me : Int
  si : Int
  un : Int
  st : Bool
  co : List Int
def Le.cs (x : Le) : List Value := [.int .i64 x.ta, .int .i64 x.qu, .int .i64 x.no, .slice x.sa x.sl x.sc, .int .i64 x.me, .int .i64 x.si, .int .i64 x.un, .bool x.st]
theorem Le.cs_len (x : Le) : x.cs.length = 8 := rfl
theorem Le.one (x : Le) : ∀ u ∈ x.cs, u.oneCell' = true := by
  intro u hu
  simp [Le.cs] at hu
  rcases hu with rfl | rfl | rfl | rfl | rfl | rfl | rfl | rfl <;> rfl
def le0 : Le := ⟨0, 0, 0, none, 0, 0, 0, 0, 0, false, []⟩
/-- What a list of leases reads as. -/
def HoldsL (w : World) (a : Option Addr) (len cap : Nat) (l : List Le) : Prop := HoldsE 8 Le.cs w a len cap l ∧ ∀ x ∈ l, HoldsN w x.sa x.sl x.sc x.co
theorem HoldsL.below {w w' : World} {a : Option Addr} {len cap : Nat} {l : List Le} (h : HoldsL w a len cap l) (hb : Below w.heap.size w w') : HoldsL w' a len cap l := ⟨h.1.below hb, fun x hx => (h.2 x hx).below hb⟩
def la (l : List Le) (i : Nat) : Le := l[i]?.getD le0
theorem la_get {l : List Le} {i : Nat} (h : i < l.length) : l[i]? = some (la l i) := by unfold la; rw [List.getElem?_eq_getElem h]; rfl
theorem la_mem {l : List Le} {i : Nat} (h : i < l.length) : la l i ∈ l := List.mem_of_getElem? (la_get h)
/-- A lease's cells. -/
def AtL (w : World) (b o : Nat) (x : Le) : Prop :=
  w.cell? ⟨b, o, none⟩ = some (.int .i64 x.ta) ∧ w.cell? ⟨b, o + 1, none⟩ = some (.int .i64 x.qu) ∧ w.cell? ⟨b, o + 2, none⟩ = some (.int .i64 x.no) ∧ w.cell? ⟨b, o + 3, none⟩ = some (.slice x.sa x.sl x.sc) ∧ w.cell? ⟨b, o + 4, none⟩ = some (.int .i64 x.me) ∧ w.cell? ⟨b, o + 5, none⟩ = some (.int .i64 x.si) ∧ w.cell? ⟨b, o + 6, none⟩ = some (.int .i64 x.un) ∧ w.cell? ⟨b, o + 7, none⟩ = some (.bool x.st)
theorem HoldsE.rowL {w : World} {a : Option Addr} {len cap : Nat} {l : List Le} (h : HoldsE 8 Le.cs w a len cap l) (hp : 0 < len) : ∃ b off, a = some ⟨b, off, none⟩ ∧ b < w.heap.size ∧ ∀ j, j < len → AtL w b (off + j * 8) (la l j) := by
  obtain ⟨h1, h2, h3, h4, h5⟩ := h
  obtain ⟨b, off, e, hlt, hc⟩ := h5 hp
  refine ⟨b, off, e, hlt, fun j hj => ?_⟩
  have hh := hc j _ (la_get (by omega))
  exact ⟨hh 0 _ rfl, hh 1 _ rfl, hh 2 _ rfl, hh 3 _ rfl, hh 4 _ rfl, hh 5 _ rfl, hh 6 _ rfl, hh 7 _ rfl⟩
/-- A block of numbers that reads as something lies among what is there. -/
theorem HoldsE.lt {α : Type} {k : Nat} {enc : α → List Value} {w : World} {b o len cap : Nat} {l : List α} (h : HoldsE k enc w (some ⟨b, o, none⟩) len cap l) (hp : 0 < len) : b < w.heap.size := by
  obtain ⟨h1, h2, h3, h4, h5⟩ := h
  obtain ⟨b', off, e, hlt, hc⟩ := h5 hp
  cases e
  exact hlt


section
open Go.ChangeShapes Go.WideShapes Go.ChangeAt
def Le.ok (x : Le) : Prop := I64 x.ta ∧ I64 x.no ∧ I64 x.me
def Le.okB (x : Le) : Prop := I64 x.qu ∧ I64 x.si ∧ I64 x.un
instance : Inhabited Le := ⟨le0⟩
variable {H : Type} {enc : TypeId × Value → H} {w : World} {base b0 : Nat} {spare : Nat → Bool} {held : Bool} {r : Reach} {v : Value} {d : DataW H} {p : List MemPlace} {fuel : Nat} {cs : List Value} {x : DataW H × List MemPlace}

theorem holds_ints {a : Addr} {len cap : Nat} {zs : List Int} (hl : len ≤ cap) (hm : cap ≤ maxLen) (hz : zs.length = cap) (hc : ∀ i, i < zs.length → w.cell? (a.add i) = some (.int .i64 (zs.getD i 0))) : HoldsN w (some a) len cap (zs.take len) := by
  unfold maxLen at hm
  refine ⟨by rw [List.length_take]; omega, hl, by omega, (fun e => by cases e), fun hp => ?_⟩
  have h0 := hc 0 (by omega)
  have hsp := cell_spot h0
  obtain ⟨b, o, s⟩ := a
  have hs : s = none := by
    cases s with
    | none => rfl
    | some y => simp [Addr.add] at hsp
  subst hs
  refine ⟨b, o, rfl, ?_, fun j y hy i u hu => ?_⟩
  · have := World.block_lt_of_cell? w _ h0
    simpa [Addr.add] using this
  · have hi : i = 0 := by
      have := (List.getElem?_eq_some_iff.1 hu).1
      simp [encN] at this
      exact this
    subst hi
    cases hu
    have hj := (List.getElem?_eq_some_iff.1 hy).1
    rw [List.length_take] at hj
    have h1 := hc j (by omega)
    rw [Addr.add_lit] at h1
    rw [Nat.mul_one, Nat.add_zero, h1]
    rw [List.getElem?_take_of_lt (by omega)] at hy
    rw [List.getD_eq_getElem?_getD, hy]
    rfl

set_option maxRecDepth 100000 in
theorem trod_lease (h : DataW.trod enc Try.prog w base (fun _ => true) held fuel 138 cs = some x) : ∃ q : Le, cs = q.cs ∧ HoldsN w q.sa q.sl q.sc q.co ∧ (q.ok ∧ q.okB) ∧ ((x.1.weights Try.prog 138).all (· ≤ reachBytes) = true → q.sc * 8 ≤ 140737488351232) := by
  obtain ⟨xs, n, _, hxe, hl, hx, hf⟩ := DataW.trod_struct Try.underlying138 h
  have hc : Try.prog.cellsOf 138 = 8 := by kernel_rfl
  have hc1 : Try.prog.cellsOf 2 = 1 := by kernel_rfl
  have hc2 : Try.prog.cellsOf 3 = 1 := by kernel_rfl
  have hc3 : Try.prog.cellsOf 28 = 1 := by kernel_rfl
  have hc4 : Try.prog.cellsOf 4 = 1 := by kernel_rfl
  rw [hc] at hl
  match cs, hl with
  | [c0, c1, c2, c3, c4, c5, c6, c7], _ =>
    have f0 := hf 0 _ rfl
    have f1 := hf 1 _ rfl
    have f2 := hf 2 _ rfl
    have f3 := hf 3 _ rfl
    have f4 := hf 4 _ rfl
    have f5 := hf 5 _ rfl
    have f6 := hf 6 _ rfl
    have f7 := hf 7 _ rfl
    simp only [List.getElem_toArray, List.getElem_cons_zero, List.getElem_cons_succ] at f0 f1 f2 f3 f4 f5 f6 f7
    rw [hc2] at f0 f1 f2
    rw [hc3] at f3
    rw [hc1] at f4 f5 f6
    rw [hc4] at f7
    have hxs : xs.length = 8 := by rw [hx]; rfl
    rw [List.getElem?_eq_getElem (by omega)] at f0 f1 f2 f3 f4 f5 f6 f7
    obtain ⟨a0, e0, _, w0⟩ := DataW.trod_int Try.underlying3 f0
    obtain ⟨a1, e1, _, w1⟩ := DataW.trod_int Try.underlying3 f1
    obtain ⟨a2, e2, _, w2⟩ := DataW.trod_int Try.underlying3 f2
    obtain ⟨a4, e4, _, w4⟩ := DataW.trod_int Try.underlying2 f4
    obtain ⟨a5, e5, _, w5⟩ := DataW.trod_int Try.underlying2 f5
    obtain ⟨a6, e6, _, w6⟩ := DataW.trod_int Try.underlying2 f6
    obtain ⟨a7, e7, _⟩ := DataW.trod_bool Try.underlying4 f7
    simp at e0 e1 e2 e4 e5 e6 e7
    subst e0 e1 e2 e4 e5 e6 e7
    rcases open_ints Try.underlying28 Try.underlying3 hc2 f3 with ⟨e3, _⟩ | ⟨ad, len, cap, zs, e3, _, h1, h2, h3, h4, h5, h6⟩
    · simp at e3
      subst e3
      exact ⟨⟨a0, a1, a2, none, 0, 0, a4, a5, a6, a7, []⟩, rfl, ⟨rfl, Nat.le_refl 0, Nat.zero_le _, fun _ => ⟨rfl, rfl⟩, fun h => absurd h (Nat.lt_irrefl 0)⟩, ⟨⟨bounds_i64 w0, bounds_i64 w2, bounds_i64 w4⟩, bounds_i64 w1, bounds_i64 w5, bounds_i64 w6⟩, fun _ => by simp⟩
    · simp at e3
      subst e3
      simp only [if_true] at h3
      refine ⟨⟨a0, a1, a2, some ad, len, cap, a4, a5, a6, a7, zs.take len⟩, rfl, holds_ints h1 h2 h3 h5, ⟨⟨bounds_i64 w0, bounds_i64 w2, bounds_i64 w4⟩, bounds_i64 w1, bounds_i64 w5, bounds_i64 w6⟩, fun hw => ?_⟩
      rw [List.all_eq_true] at hw
      have hm : cap * 8 ∈ x.1.weights Try.prog 138 := by
        rw [hxe]
        simp only [DataW.weights, Try.underlying138]
        refine DataW.weights_mem_each (j := 3) (t := 28) (d := xs[3].1) rfl (by rw [List.getElem?_map, List.getElem?_eq_getElem (by omega)]; rfl) _ ?_
        rw [h4]
        simp only [DataW.weights, Try.underlying28]
        have hb : Try.prog.bytesOf 3 = 8 := by kernel_rfl
        rw [hb]
        have hlen : (lits (H := H) IntKind.i64 (zs.take len)).length + (lits (H := H) IntKind.i64 (zs.drop len)).length = cap := by
          simp [lits]; omega
        rw [hlen]
        exact List.mem_cons_self
      have := of_decide_eq_true (hw _ hm)
      simpa [reachBytes] using this

theorem weights_mem_all {P : Program} {e : TypeId} : ∀ {ds : List (DataW H)} {d : DataW H}, d ∈ ds → ∀ n ∈ d.weights P e, n ∈ DataW.weightsAll P e ds := by
  intro ds
  induction ds with
  | nil => intro d hd; cases hd
  | cons y r ih =>
    intro d hd n hn
    unfold DataW.weightsAll
    rcases List.mem_cons.1 hd with rfl | hd
    · exact List.mem_append.2 (.inl hn)
    · exact List.mem_append.2 (.inr (ih hd n hn))

set_option maxRecDepth 100000 in
/-- A list of leases that came in. -/
theorem val_rowL {t : TypeId} {a : Option Addr} {len cap : Nat} (ht : Try.prog.underlying t = some (.slice 138))
    (h : DataW.Trod enc Try.prog w base (fun _ => true) held t (.slice a len cap) d p) : ∃ l : List Le, HoldsL w a len cap l ∧ (∀ q ∈ l, q.ok) ∧ DRow d cap ∧ ((d.weights Try.prog t).all (· ≤ reachBytes) = true → ∀ q ∈ l, q.sc * 8 ≤ 140737488351232) ∧ ∀ q ∈ l, q.okB := by
  have hc : Try.prog.cellsOf 138 = 8 := by kernel_rfl
  obtain ⟨fuel, hf⟩ := h
  rcases open_slice ht hf with ⟨hcs, _⟩ | ⟨x, l, c, m, n, D, Pl, hcs, _, hl, hm, hmm, hx, hi⟩
  · simp [Value.cells] at hcs
    obtain ⟨rfl, rfl, rfl⟩ := hcs
    exact ⟨[], ⟨⟨rfl, by omega, by omega, fun _ => ⟨rfl, rfl⟩, fun h => absurd h (by omega)⟩, fun q hq => by cases hq⟩, (fun q hq => by cases hq), .inl rfl, (fun _ q hq => by cases hq), fun q hq => by cases hq⟩
  · simp [Value.cells] at hcs
    obtain ⟨rfl, rfl, rfl⟩ := hcs
    simp only [if_true] at hmm
    subst hmm
    rw [hc] at hi
    have hg : ∀ i, i < len → ∃ q : Le, (HoldsN w q.sa q.sl q.sc q.co ∧ (q.ok ∧ q.okB) ∧ (((D i).weights Try.prog 138).all (· ≤ reachBytes) = true → q.sc * 8 ≤ 140737488351232)) ∧ ∀ j u, q.cs[j]? = some u → w.cell? (x.add (i * 8 + j)) = some u := fun i hlt => by
      obtain ⟨cs', h1, h2⟩ := hi i (by omega)
      obtain ⟨q, e1, hq⟩ := trod_lease h2
      obtain ⟨_, h3, h4⟩ := World.cells?_some h1
      refine ⟨q, hq, fun j u hu => ?_⟩
      have hj : j < 8 := by have := (List.getElem?_eq_some_iff.1 hu).1; rw [Le.cs_len] at this; exact this
      have := h4 j hj
      rw [Go.Deep.add_add, e1, hu] at this
      exact this
    have hcase : ∃ f : Nat → Le, ∀ i, i < len → (HoldsN w (f i).sa (f i).sl (f i).sc (f i).co ∧ ((f i).ok ∧ (f i).okB) ∧ (((D i).weights Try.prog 138).all (· ≤ reachBytes) = true → (f i).sc * 8 ≤ 140737488351232)) ∧ ∀ j u, (f i).cs[j]? = some u → w.cell? (x.add (i * 8 + j)) = some u := by
      refine ⟨fun i => if h : i < len then (hg i h).choose else default, fun i hlt => ?_⟩
      simp only [dif_pos hlt]
      exact (hg i hlt).choose_spec
    obtain ⟨f, hf2⟩ := hcase
    unfold maxLen at hm
    refine ⟨(List.range len).map f, ⟨⟨by simp, hl, by omega, (fun h => by cases h), fun hp => ?_⟩, ?_⟩, ?_, .inr ⟨_, _, (congrArg Prod.fst hx), by simp; omega⟩, ?_, ?_⟩
    · have h0 := (hf2 0 hp).2 0 _ rfl
      have hsp := cell_spot h0
      obtain ⟨b, o, s⟩ := x
      have hs : s = none := by
        cases s with
        | none => rfl
        | some y => simp [Addr.add] at hsp
      subst hs
      refine ⟨b, o, rfl, ?_, fun j y hy i u hu => ?_⟩
      · have := World.block_lt_of_cell? w _ h0
        simpa [Addr.add] using this
      · have hj : j < len := by have := (List.getElem?_eq_some_iff.1 hy).1; simpa using this
        rw [List.getElem?_map, List.getElem?_range hj] at hy
        simp at hy
        subst hy
        have := (hf2 j hj).2 i u hu
        rw [Addr.add_lit, ← Nat.add_assoc] at this
        exact this
    · intro q hq
      obtain ⟨i, hi1, rfl⟩ := List.mem_map.1 hq
      exact (hf2 i (by simpa using hi1)).1.1
    · intro q hq
      obtain ⟨i, hi1, rfl⟩ := List.mem_map.1 hq
      exact (hf2 i (by simpa using hi1)).1.2.1.1
    · intro hw q hq
      obtain ⟨i, hi1, rfl⟩ := List.mem_map.1 hq
      have hi2 : i < len := by simpa using hi1
      refine (hf2 i hi2).1.2.2 ?_
      rw [List.all_eq_true] at hw ⊢
      intro k hk
      refine hw k ?_
      have hd : d = _ := congrArg Prod.fst hx
      rw [hd]
      simp only [DataW.weights, ht]
      refine List.mem_cons_of_mem _ (List.mem_append.2 (.inl (weights_mem_all ?_ k hk)))
      exact List.mem_map.2 ⟨i, by simpa using hi2, rfl⟩
    · intro q hq
      obtain ⟨i, hi1, rfl⟩ := List.mem_map.1 hq
      exact (hf2 i (by simpa using hi1)).1.2.1.2
end

end Go.Proofs.Ytkjglpgjflkmbaa
