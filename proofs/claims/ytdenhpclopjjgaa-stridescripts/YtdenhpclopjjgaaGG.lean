/-
  Contracts of stride: Clone, Delete.
-/
import Derived.Test.YtdenhpclopjjgaaGF
import Derived.ArgAppend
import Derived.Maps.AppendAt
namespace Go.Proofs.Ytdenhpclopjjgaa
open Go.RowKit Go.Deep Go.Maps
set_option linter.unusedVariables false
set_option linter.unusedSimpArgs false

theorem flat_take {α : Type} {k : Nat} {enc : α → List Value} (hk : ∀ x, (enc x).length = k) (l : List α) {i : Nat} (h : i ≤ l.length) : (l.take i).flatMap enc = (l.flatMap enc).take (i * k) := by
  have e : (l.take i).flatMap enc ++ (l.drop i).flatMap enc = l.flatMap enc := by rw [← List.flatMap_append, List.take_append_drop]
  rw [← e, List.take_left' (by rw [flat_len hk, List.length_take]; congr 1; omega)]
theorem flat_drop {α : Type} {k : Nat} {enc : α → List Value} (hk : ∀ x, (enc x).length = k) (l : List α) {i : Nat} (h : i ≤ l.length) : (l.drop i).flatMap enc = (l.flatMap enc).drop (i * k) := by
  have e : (l.take i).flatMap enc ++ (l.drop i).flatMap enc = l.flatMap enc := by rw [← List.flatMap_append, List.take_append_drop]
  rw [← e, List.drop_left' (by rw [flat_len hk, List.length_take]; congr 1; omega)]

/-- A row out of its cells. -/
theorem RowC.mk' {w : World} {r n cap : Nat} {l : List Cl} (hl : l.length = n) (le : n ≤ cap) (mx : cap ≤ maxLen) (hp : ∃ cur : Array Value, w.heap[r]? = some (.cells cur 41 (0, 0)) ∧ cur.size = cap * 3)
    (at' : ∀ p u, (l.flatMap Cl.cs)[p]? = some u → w.cell? ⟨r, p, none⟩ = some u) : RowC w r n cap (ca l) := by
  have hh : ∀ j, j < n → ∀ i v, (Cl.cs (ca l j))[i]? = some v → w.cell? ⟨r, j * 3 + i, none⟩ = some v := fun j hj i v hv => at' _ _ (flat_get Cl.cs_len l j _ i v (ca_get (by omega)) hv)
  exact ⟨le, mx, hp, fun j hj => hh j hj 0 _ rfl, fun j hj => hh j hj 1 _ rfl, fun j hj => hh j hj 2 _ rfl⟩
theorem RowC.flat {w : World} {r n cap : Nat} {l : List Cl} (h : RowC w r n cap (ca l)) (hl : l.length = n) : ∀ p u, (l.flatMap Cl.cs)[p]? = some u → w.cell? ⟨r, p, none⟩ = some u := by
  intro p u hu
  obtain ⟨j, x, i, rfl, hx, hi⟩ := flat_inv Cl.cs_len l p u hu
  exact h.at hl j x hx i u hi
/-- The block's form outlasts stores. -/
theorem shape_set {w : World} {r m : Nat} {e : TypeId} (vs : List Value) : ∀ (o : Nat) (w : World), (∃ cur : Array Value, w.heap[r]? = some (.cells cur e (0, 0)) ∧ cur.size = m) → ∃ cur : Array Value, (w.setCells r o vs).heap[r]? = some (.cells cur e (0, 0)) ∧ cur.size = m := by
  induction vs with
  | nil => intro o w h; exact h
  | cons v vs ih =>
    intro o w h
    obtain ⟨cur, h1, h2⟩ := h
    rw [World.setCells]
    exact ih _ _ ⟨_, heap_setCell_same w r o cur e v h1, by simpa using h2⟩
theorem oth_set {k b : Nat} (vs : List Value) : ∀ (o : Nat) (w : World), k ≠ b → (w.setCells b o vs).heap[k]? = w.heap[k]? := by
  induction vs with
  | nil => intro o w h; rfl
  | cons v vs ih =>
    intro o w h
    rw [World.setCells]
    exact (ih _ _ h).trans (Below.heap_setCell _ _ _ _ h)
theorem below0_setCells {b : Nat} {w w' : World} (vs : List Value) (h : Below 0 w w') (o : Nat) : Below 0 w (w'.setCells b o vs) := by
  induction vs generalizing o w' with
  | nil => exact h
  | cons v r ih => rw [World.setCells]; exact ih (h.setCell (p := ⟨b, o, none⟩) (Nat.zero_le _) v) _
theorem tn_setCells {gb r b o : Nat} {w w' : World} {vs : List Value} (h : Tn gb r w w') (hb : b = gb ∨ b = r ∨ w.heap.size ≤ b) : Tn gb r w (w'.setCells b o vs) :=
  ⟨below0_setCells vs h.bel o, fun k hk h1 h2 => (oth_set vs o w' (by omega)).trans (h.oth k hk h1 h2)⟩
theorem isSome_set {b : Nat} (vs : List Value) {o : Nat} {w : World} (h : ∀ j, j < vs.length → (w.cell? ⟨b, o + j, none⟩).isSome = true) (k : Nat) (hk : (w.cell? ⟨b, k, none⟩).isSome = true) : ((w.setCells b o vs).cell? ⟨b, k, none⟩).isSome = true := by
  by_cases hin : o ≤ k ∧ k < o + vs.length
  · have := World.cell?_setCells_in b vs o w h (k - o) (by omega)
    rw [show o + (k - o) = k by omega] at this
    rw [this]; rfl
  · rw [World.cell?_setCells_out b vs o w ⟨b, k, none⟩ (fun _ _ => by show k < o ∨ o + vs.length ≤ k; omega)]
    exact hk

theorem nil_eql1 (a : Addr) (n c : Nat) (w : World) : Sem.run Try.prog (binOp BinOp.eql 34 (.slice (some a) n c) (.slice none 0 0)) w = .ok (.bool false) w := by kernel_rfl
theorem nil_eql0 (w : World) : Sem.run Try.prog (binOp BinOp.eql 34 (.slice none 0 0) (.slice none 0 0)) w = .ok (.bool true) w := by kernel_rfl

set_option maxRecDepth 100000 in
set_option maxHeartbeats 1000000 in
theorem cclone_any (a : Option Addr) (len cap : Nat) (l : List Cl) (w : World) (h : HoldsC w a len cap l) (hl : len ≤ 1024) :
    Calls Try.prog 25 #[.slice a len cap] w fun e w' => ∃ v, e = .returned v ∧ OwnC w.heap.size w' v len l ∧ Below w.heap.size w w' := by
  cases a with
  | none =>
    obtain ⟨rfl, rfl⟩ := h.2.2.2.1 rfl
    obtain rfl : l = [] := List.length_eq_zero_iff.1 h.1
    have hnn := nil_eql0
    go_enter Try.func25, Try.ntmps25
    go_wp2
    go_ret
    exact ⟨_, rfl, OwnE.nil _ _ _ _ _, Below.refl _ _⟩
  | some ad =>
    have h1 := hid (h.below ((Below.refl _ w).alloc (Nat.le_refl _) (.cells #[] 41)))
    have o1 := hid (OwnE.lit 41 3 Cl.cs w)
    clear h
    have hnn := nil_eql1
    go_enter Try.func25, Try.ntmps25
    go_wp2_with (at_builtin; refine cat_ownE 34 41 _ 24 Cl.cs_len Cl.one Try.underlying34 infoC rfl (by decide) _ rfl (.tmp 5) (.tmp 6) rfl w.heap.size 0 _ [] rfl o1.out (by simp) (some ad) len cap l rfl h1.out (by omega) (by omega) ?_; intro v' w1 hown hb hg)
    have e0 : 0 + len = len := by omega
    rw [e0] at hown
    go_ret
    exact ⟨_, rfl, hown, Below.trans ((Below.refl _ w).alloc (Nat.le_refl _) _) hb⟩

set_option maxHeartbeats 1000000 in
theorem list_any (gb r : Nat) (l : List Cl) (w : World) (h : Grp w gb r l) (hle : l.length ≤ 1024) :
    Calls Try.prog 14 #[gp gb] w fun e w' => ∃ v, e = .returned v ∧ OwnC w.heap.size w' v l.length l ∧ Below w.heap.size w w' := by
  obtain ⟨a, cap, c0, f0, hh, _⟩ := h.box
  have B := hid (cclone_any a l.length cap l w hh hle)
  clear h hh
  go_enter Try.func14, Try.ntmps14
  go_wp2_with fail
  refine B.out.mono ?_
  rintro e w1 ⟨v, rfl, o1, b1⟩
  have O := hid o1
  clear o1
  go_wp2
  go_ret
  exact ⟨_, rfl, O.out, b1⟩
theorem list_nil (w : World) : Calls Try.prog 14 #[.pointer none] w fun e w' => e = .returned (.slice none 0 0) ∧ w = w' := by
  go_enter Try.func14, Try.ntmps14
  go_wp2
  go_ret
  exact ⟨rfl, rfl⟩
theorem new_any (w : World) : Calls Try.prog 10 #[] w fun e w' => ∃ gb, e = .returned (gp gb) ∧ Grp w' gb gb [] ∧ w.heap.size ≤ gb ∧ Below w.heap.size w w' := by
  go_enter Try.func10, Try.ntmps10
  go_wp2
  go_ret
  refine ⟨_, rfl, ⟨none, 0, heap_alloc_new w _, .inl ⟨rfl, rfl, rfl, rfl⟩⟩, Nat.le_refl _, (Below.refl _ _).alloc (Nat.le_refl _) _⟩

/-- 'clear', kept folded. -/
def clrG (ats : Array TypeId) (ty : TypeId) (args : Array Value) : Sem Value := Builtin.clear_ ats ty args
theorem clrG_eq (ats : Array TypeId) (ty : TypeId) (args : Array Value) : Builtin.clear_ ats ty args = clrG ats ty args := rfl
def appC (ats : Array TypeId) (ty : TypeId) (args : Array Value) : Sem Value := Builtin.append_ ats ty args
theorem appC_eq (ats : Array TypeId) (ty : TypeId) (args : Array Value) : Builtin.append_ ats ty args = appC ats ty args := rfl
theorem zeroC (w : World) : (zeroValue 41).run Try.prog w = .ok (.agg #[.int .i64 0, .int .i64 0, .int .i64 0]) w := by kernel_rfl
theorem run_clear1 (w : World) (b o c : Nat) (ty : TypeId) (hc : ∀ j, j < 3 → (w.cell? ⟨b, o + j, none⟩).isSome = true) (hf : ∀ j, j < 3 → w.frozen? ⟨b, o + j, none⟩ = false) :
    (Builtin.clear_ #[34] ty #[.slice (some ⟨b, o, none⟩) 1 c]).run Try.prog w = .ok (.tuple #[]) (w.setCells b o [.int .i64 0, .int .i64 0, .int .i64 0]) := by
  have hz : (Builtin.zeroCells (Value.agg #[.int .i64 0, .int .i64 0, .int .i64 0]).cells 1).toList = [.int .i64 0, .int .i64 0, .int .i64 0] := by kernel_rfl
  have hst := run_storeCells_cells (P := Try.prog) b o [.int .i64 0, .int .i64 0, .int .i64 0] 0 w (by simpa using hc) (by simpa using hf) (by intro v hv; simp at hv; rcases hv with rfl | rfl | rfl <;> rfl)
  simp only [Nat.add_zero] at hst
  simp [Builtin.clear_, run_underlying Try.underlying34, zeroC, hz, hst]

end Go.Proofs.Ytdenhpclopjjgaa
