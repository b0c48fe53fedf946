/-
  Leases in memory; a room that is written.
-/
import Derived.Test.YtikalkigmnipiaaPC
namespace Go.Proofs.Ytikalkigmnipiaa
open Go.RowKit Go.Deep Go.Maps Go.Shelf
set_option linter.unusedVariables false
set_option linter.unusedSimpArgs false

/-- A lease, with what its cores read as. -/
structure Le where
  ta : Int
  qu : Int
  no : Int
  sa : Option Addr
  sl : Nat
  sc : Nat
  me : Int
  si : Int
  un : Int
  st : Bool
  co : List Int
def Le.cs (x : Le) : List Value := [.int .i64 x.ta, .int .i64 x.qu, .int .i64 x.no, .slice x.sa x.sl x.sc, .int .i64 x.me, .int .i64 x.si, .int .i64 x.un, .bool x.st]
theorem Le.cs_len (x : Le) : x.cs.length = 8 := rfl
theorem Le.one (x : Le) : ∀ u ∈ x.cs, u.oneCell' = true := by
  intro u hu
  simp [Le.cs] at hu
  rcases hu with rfl | rfl | rfl | rfl | rfl | rfl | rfl | rfl <;> rfl
def Le.z (x : Le) : Lz := ⟨x.no, x.me, x.co⟩
def le0 : Le := ⟨0, 0, 0, none, 0, 0, 0, 0, 0, false, []⟩
/-- What a list of leases reads as. -/
def HoldsL (w : World) (a : Option Addr) (len cap : Nat) (l : List Le) : Prop := HoldsE 8 Le.cs w a len cap l ∧ ∀ x ∈ l, HoldsN w x.sa x.sl x.sc x.co
theorem HoldsL.below {w w' : World} {a : Option Addr} {len cap : Nat} {l : List Le} (h : HoldsL w a len cap l) (hb : Below w.heap.size w w') : HoldsL w' a len cap l := ⟨h.1.below hb, fun x hx => (h.2 x hx).below hb⟩
def la (l : List Le) (i : Nat) : Le := l[i]?.getD le0
theorem la_get {l : List Le} {i : Nat} (h : i < l.length) : l[i]? = some (la l i) := by unfold la; rw [List.getElem?_eq_getElem h]; rfl
theorem la_mem {l : List Le} {i : Nat} (h : i < l.length) : la l i ∈ l := List.mem_of_getElem? (la_get h)
/-- A lease's cells. -/
def AtL (w : World) (b o : Nat) (x : Le) : Prop :=
  w.cell? ⟨b, o, none⟩ = some (.int .i64 x.ta) ∧ w.cell? ⟨b, o + 1, none⟩ = some (.int .i64 x.qu) ∧ w.cell? ⟨b, o + 2, none⟩ = some (.int .i64 x.no) ∧ w.cell? ⟨b, o + 3, none⟩ = some (.slice x.sa x.sl x.sc) ∧ w.cell? ⟨b, o + 4, none⟩ = some (.int .i64 x.me) ∧ w.cell? ⟨b, o + 5, none⟩ = some (.int .i64 x.si) ∧ w.cell? ⟨b, o + 6, none⟩ = some (.int .i64 x.un) ∧ w.cell? ⟨b, o + 7, none⟩ = some (.bool x.st)
theorem HoldsE.rowL {w : World} {a : Option Addr} {len cap : Nat} {l : List Le} (h : HoldsE 8 Le.cs w a len cap l) (hp : 0 < len) : ∃ b off, a = some ⟨b, off, none⟩ ∧ b < w.heap.size ∧ ∀ j, j < len → AtL w b (off + j * 8) (la l j) := by
  obtain ⟨h1, h2, h3, h4, h5⟩ := h
  obtain ⟨b, off, e, hlt, hc⟩ := h5 hp
  refine ⟨b, off, e, hlt, fun j hj => ?_⟩
  have hh := hc j _ (la_get (by omega))
  exact ⟨hh 0 _ rfl, hh 1 _ rfl, hh 2 _ rfl, hh 3 _ rfl, hh 4 _ rfl, hh 5 _ rfl, hh 6 _ rfl, hh 7 _ rfl⟩
/-- A block of numbers that reads as something lies among what is there. -/
theorem HoldsE.lt {α : Type} {k : Nat} {enc : α → List Value} {w : World} {b o len cap : Nat} {l : List α} (h : HoldsE k enc w (some ⟨b, o, none⟩) len cap l) (hp : 0 < len) : b < w.heap.size := by
  obtain ⟨h1, h2, h3, h4, h5⟩ := h
  obtain ⟨b', off, e, hlt, hc⟩ := h5 hp
  cases e
  exact hlt

/-- Of block g the room at o alone may have turned: it reads as r now. -/
structure Tk (g o : Nat) (w w' : World) (r : Rm) : Prop where
  but : But g w w'
  fz : ∀ j, w'.frozen? ⟨g, j, none⟩ = false
  out : ∀ p, p < o ∨ o + 71 ≤ p → w'.cell? ⟨g, p, none⟩ = w.cell? ⟨g, p, none⟩
  at' : w'.rangeAt g o r.cs
theorem Tk.start {g o : Nat} {w w' : World} {r : Rm} (hr : w.rangeAt g o r.cs) (hf : ∀ j, w.frozen? ⟨g, j, none⟩ = false) (hg : g < w.heap.size) (hb : Below w.heap.size w w') : Tk g o w w' r :=
  ⟨But.of hb (Nat.le_of_lt hg), fun j => (hb.frozen (p := ⟨g, j, none⟩) hg).trans (hf j), fun p _ => hb.cell (p := ⟨g, p, none⟩) hg, fun j v hv => (hb.cell (p := ⟨g, o + j, none⟩) hg).trans (hr j v hv)⟩
theorem Tk.glt {g o : Nat} {w w' : World} {r : Rm} (h : Tk g o w w' r) : g < w'.heap.size := by
  have h0 : (r.cs)[0]? = some (.int .i64 r.nd.id) := by simp [Rm.cs, Nd.cs]
  exact cell_lt (h.at' 0 _ h0)
theorem Tk.below {g o : Nat} {w w' w'' : World} {r : Rm} (h : Tk g o w w' r) (hb : Below w'.heap.size w' w'') : Tk g o w w'' r := by
  have hg := h.glt
  exact ⟨h.but.trans (But.of hb (Nat.le_of_lt hg)), fun j => (hb.frozen (p := ⟨g, j, none⟩) hg).trans (h.fz j), fun p hp => (hb.cell (p := ⟨g, p, none⟩) hg).trans (h.out p hp), fun j v hv => (hb.cell (p := ⟨g, o + j, none⟩) hg).trans (h.at' j v hv)⟩
theorem But.setCell (g o : Nat) (w : World) (v : Value) : But g w (w.setCell ⟨g, o, none⟩ v) := ⟨(Below.refl g w).setCell (p := ⟨g, o, none⟩) (Nat.le_refl g) v, fun k _ hk => Below.heap_setCell _ _ _ _ hk⟩
theorem Tk.put {g o : Nat} {w w' : World} {r r' : Rm} {i : Nat} {v : Value} (h : Tk g o w w' r) (hi : i < 71) (e : r'.cs = r.cs.set i v) : Tk g o w (w'.setCell ⟨g, o + i, none⟩ v) r' := by
  refine ⟨h.but.trans (But.setCell _ _ _ _), fun j => (World.frozen?_setCell _ _ _ _).trans (h.fz j), fun p hp => ?_, ?_⟩
  · rw [World.cell?_setCell_other _ _ _ _ (by intro e; injection e with e1 e2; omega)]
    exact h.out p hp
  · intro j u hu
    rw [e] at hu
    have hl : i < r.cs.length := by rw [Rm.cs_len]; exact hi
    by_cases hj : j = i
    · subst hj
      rw [List.getElem?_set_self hl] at hu
      cases hu
      have := h.at' j _ (List.getElem?_eq_getElem hl)
      exact World.cell?_setCell_same _ _ _ this
    · rw [List.getElem?_set_ne (by omega)] at hu
      rw [World.cell?_setCell_other _ _ _ _ (by intro e; injection e with e1 e2; omega)]
      exact h.at' j u hu

theorem Rm.set_tk (r : Rm) (c : Nat) (hc : c < 64) : (⟨r.nd, fun j => r.tk j || decide (j = c), r.fc, r.fm⟩ : Rm).cs = r.cs.set (5 + c) (.bool true) := by
  unfold Rm.cs
  rw [List.set_append_right _ _ (by rw [Nd.cs_len]; omega), Nd.cs_len, show 5 + c - 5 = c by omega, List.set_append_left _ _ (by simp; exact hc)]
  congr 2
  apply List.ext_getElem
  · simp
  · intro i h1 h2
    rw [List.getElem_set]
    by_cases e : c = i
    · subst e; simp
    · have e' : ¬ i = c := fun h => e h.symm
      simp [e, e']
theorem Rm.set_fc (r : Rm) (x : Int) : (⟨r.nd, r.tk, x, r.fm⟩ : Rm).cs = r.cs.set 69 (.int .i64 x) := by
  unfold Rm.cs
  rw [List.set_append_right _ _ (by rw [Nd.cs_len]; omega), Nd.cs_len, List.set_append_right _ _ (by simp)]
  simp
theorem Rm.set_fm (r : Rm) (x : Int) : (⟨r.nd, r.tk, r.fc, x⟩ : Rm).cs = r.cs.set 70 (.int .i64 x) := by
  unfold Rm.cs
  rw [List.set_append_right _ _ (by rw [Nd.cs_len]; omega), Nd.cs_len, List.set_append_right _ _ (by simp)]
  simp
theorem Rm.at_co (r : Rm) : (r.cs)[1]? = some (.int .i64 r.nd.co) := by simp [Rm.cs, Nd.cs]
theorem Rm.at_id (r : Rm) : (r.cs)[0]? = some (.int .i64 r.nd.id) := by simp [Rm.cs, Nd.cs]
theorem Rm.at_tk (r : Rm) (c : Nat) (hc : c < 64) : (r.cs)[5 + c]? = some (.bool (r.tk c)) := by
  unfold Rm.cs
  rw [List.getElem?_append_right (by rw [Nd.cs_len]; omega), Nd.cs_len, show 5 + c - 5 = c by omega, List.getElem?_append_left (by simp; exact hc)]
  simp [hc]
theorem Rm.at_fc (r : Rm) : (r.cs)[69]? = some (.int .i64 r.fc) := by
  unfold Rm.cs
  rw [List.getElem?_append_right (by rw [Nd.cs_len]; omega), Nd.cs_len, List.getElem?_append_right (by simp)]
  simp
theorem Rm.at_fm (r : Rm) : (r.cs)[70]? = some (.int .i64 r.fm) := by
  unfold Rm.cs
  rw [List.getElem?_append_right (by rw [Nd.cs_len]; omega), Nd.cs_len, List.getElem?_append_right (by simp)]
  simp
/-- The room's row, with one room replaced. -/
theorem Tk.holds {g j : Nat} {w w' : World} {len cap : Nat} {l : List Rm} {r : Rm} (hh : HoldsR w (some ⟨g, 0, none⟩) len cap l) (hj : j < len) (h : Tk g (j * 71) w w' r) : HoldsR w' (some ⟨g, 0, none⟩) len cap (l.set j r) := by
  have hl := hh.1
  refine ⟨by rw [List.length_set]; exact hl, hh.2.1, hh.2.2.1, (fun e => by cases e), fun hp => ⟨g, 0, rfl, h.glt, fun i x hx k v hv => ?_⟩⟩
  obtain ⟨b, off, e, hlt, hc⟩ := hh.2.2.2.2 hp
  cases e
  have hk : k < 71 := by have := (List.getElem?_eq_some_iff.1 hv).1; rw [Rm.cs_len] at this; exact this
  by_cases e : i = j
  · subst e
    rw [List.getElem?_set_self (by omega)] at hx
    cases hx
    have := h.at' k v hv
    rwa [Nat.zero_add]
  · rw [List.getElem?_set_ne (by omega)] at hx
    have := hc i x hx k v hv
    rw [Nat.zero_add] at this ⊢
    rw [h.out _ (by omega)]
    exact this

end Go.Proofs.Ytikalkigmnipiaa
