/-
  Slices of things of several cells each: what they read as, what a call owns, append; lists of queues; the map of places.
-/
import Derived.Test.YtdbkjcnanffibaaQA
import Derived.Test.YtdbkjcnanffibaaOpenS
import Derived.Test.YtdbkjcnanffibaaHE
import Derived.OwnWalk
import Derived.OwnWalkIn
import Derived.Laws.AppendOwnNone
import Derived.Maps.OwnIn
import Derived.Maps.OwnOps
import Derived.BigQuiet
namespace Go.Proofs.Ytdbkjcnanffibaa
open Go.RowKit Go.Deep Go.Maps
set_option linter.unusedVariables false

/-- The cells of a queue. -/
def AtQ (w : World) (b o : Nat) (q : Qu) : Prop :=
  w.cell? ⟨b, o, none⟩ = some (.int .i64 q.id) ∧ w.cell? ⟨b, o + 1, none⟩ = some (.int .i64 q.par) ∧ w.cell? ⟨b, o + 2, none⟩ = some (.int .i64 q.wt) ∧ w.cell? ⟨b, o + 3, none⟩ = some (.int .i64 q.qc) ∧ w.cell? ⟨b, o + 4, none⟩ = some (.int .i64 q.qm) ∧ w.cell? ⟨b, o + 5, none⟩ = some (.int .i64 q.mc) ∧ w.cell? ⟨b, o + 6, none⟩ = some (.int .i64 q.mm)
theorem AtQ.same {w w' : World} {b o : Nat} {q : Qu} (h : AtQ w b o q) (hb : w'.heap[b]? = w.heap[b]?) : AtQ w' b o q := by
  have hc : ∀ i, w'.cell? ⟨b, i, none⟩ = w.cell? ⟨b, i, none⟩ := fun i => World.cell?_of_block hb
  obtain ⟨h0, h1, h2, h3, h4, h5, h6⟩ := h
  exact ⟨(hc _).trans h0, (hc _).trans h1, (hc _).trans h2, (hc _).trans h3, (hc _).trans h4, (hc _).trans h5, (hc _).trans h6⟩

/-- A list of queues in memory. -/
abbrev HoldsQ (w : World) (a : Option Addr) (len cap : Nat) (l : List Qu) : Prop := HoldsE 7 Qu.cs w a len cap l
/-- .. whose place is known. -/
def RowQ (w : World) (b off : Nat) (l : List Qu) : Prop := b < w.heap.size ∧ ∀ j, j < l.length → AtQ w b (off + j * 7) (qa l j)
theorem HoldsE.row {w : World} {a : Option Addr} {len cap : Nat} {l : List Qu} (h : HoldsQ w a len cap l) (hp : 0 < len) : ∃ b off, a = some ⟨b, off, none⟩ ∧ RowQ w b off l := by
  obtain ⟨h1, h2, h3, h4, h5⟩ := h
  obtain ⟨b, off, e, hlt, hc⟩ := h5 hp
  refine ⟨b, off, e, hlt, fun j hj => ?_⟩
  have hh := hc j _ (qa_get hj)
  exact ⟨hh 0 _ rfl, hh 1 _ rfl, hh 2 _ rfl, hh 3 _ rfl, hh 4 _ rfl, hh 5 _ rfl, hh 6 _ rfl⟩
theorem RowQ.holds {w : World} {b off cap : Nat} {l : List Qu} (h : RowQ w b off l) (h1 : l.length ≤ cap) (h2 : cap ≤ 9223372036854775807) : HoldsQ w (some ⟨b, off, none⟩) l.length cap l := by
  refine ⟨rfl, h1, h2, (fun e => by cases e), fun _ => ⟨b, off, rfl, h.1, fun j x hx i v hv => ?_⟩⟩
  have hj := (List.getElem?_eq_some_iff.1 hx).1
  obtain ⟨c0, c1, c2, c3, c4, c5, c6⟩ := h.2 j hj
  rw [qa_get hj] at hx
  cases hx
  match i, hv with
  | 0, hv => cases hv; exact c0
  | 1, hv => cases hv; exact c1
  | 2, hv => cases hv; exact c2
  | 3, hv => cases hv; exact c3
  | 4, hv => cases hv; exact c4
  | 5, hv => cases hv; exact c5
  | 6, hv => cases hv; exact c6
theorem RowQ.below {w w' : World} {b off : Nat} {l : List Qu} (h : RowQ w b off l) (hb : Below w.heap.size w w') : RowQ w' b off l :=
  ⟨Nat.lt_of_lt_of_le h.1 hb.size, fun j hj => (h.2 j hj).same (hb.block b h.1)⟩
theorem RowQ.same {w w' : World} {b off : Nat} {l : List Qu} (h : RowQ w b off l) (hb : w'.heap[b]? = w.heap[b]?) : RowQ w' b off l := by
  refine ⟨?_, fun j hj => (h.2 j hj).same hb⟩
  rcases Nat.lt_or_ge b w'.heap.size with hlt | hlt
  · exact hlt
  · rw [Array.getElem?_eq_none hlt, Array.getElem?_eq_getElem h.1] at hb; cases hb

/-- The map of the places of the first k queues. -/
def PlM (w : World) (b k : Nat) (l : List Qu) : Prop :=
  ∃ D : DataW Unit, w.ownsMap Try.prog 3 (plainElem Try.prog 3) b k D ∧ ∀ id : Int, Maps.has D (.int .i64 id) = decide (pl l id < k) ∧ (pl l id < k → D.atKey (.int .i64 id) (.lit (.int .i64 0)) = .lit (.int .i64 (pl l id)))
theorem PlM.same {w w' : World} {b k : Nat} {l : List Qu} (h : PlM w b k l) (hb : w'.heap[b]? = w.heap[b]?) : PlM w' b k l := by
  obtain ⟨D, ⟨es, clock, h1, h2⟩, h3⟩ := h
  exact ⟨D, ⟨es, clock, hb.trans h1, h2⟩, h3⟩
theorem PlM.lt {w : World} {b k : Nat} {l : List Qu} (h : PlM w b k l) : b < w.heap.size := by
  obtain ⟨D, ⟨es, clock, h1, h2⟩, h3⟩ := h
  exact (Array.getElem?_eq_some_iff.1 h1).1
theorem PlM.below {w w' : World} {b k : Nat} {l : List Qu} (h : PlM w b k l) (hb : Below w.heap.size w w') : PlM w' b k l := h.same (hb.block b h.lt)

theorem lawI : Keyed Try.prog 3 := int_keyed Try.underlying3
theorem zeroI (w : World) : (zeroValue 3).run Try.prog w = .ok (.int .i64 0) w := by kernel_rfl
theorem wfI {x : Int} (h : I64 x) : (Lit.int .i64 x).wf = true := WalkArith.wf_i64 h
theorem keyI {x : Int} (h : I64 x) : keyOf Try.prog 3 (.int .i64 x) = some (.int .i64 x) := keyOf_int_mk Try.underlying3 (wfI h)

theorem plM_put {w w' : World} {b k : Nat} {l : List Qu} {D : DataW Unit} (hD : ∀ id : Int, Maps.has D (.int .i64 id) = decide (pl l id < k) ∧ (pl l id < k → D.atKey (.int .i64 id) (.lit (.int .i64 0)) = .lit (.int .i64 (pl l id)))) (hm : IsMap D)
    (hk : k < l.length) (hp : pl l (qa l k).id = k) (hown : w'.ownsMap Try.prog 3 (plainElem Try.prog 3) b (k + 1) (D.put (.int .i64 (qa l k).id) (.lit (.int .i64 (k : Int))))) : PlM w' b (k + 1) l := by
  refine ⟨_, hown, fun id => ?_⟩
  by_cases e : id = (qa l k).id
  · subst e
    rw [has_put_same hm (by trivial), atKey_put_same hm (by trivial), hp]
    exact ⟨by simp, fun _ => rfl⟩
  · have hne : (Lit.int .i64 id) ≠ .int .i64 (qa l k).id := fun h => e (by injection h)
    rw [has_put_other hne, atKey_put_other hne, (hD id).1]
    have h1 : pl l id ≠ k := fun h => by
      have := pl_id (l := l) (id := id) (by omega)
      rw [h] at this; exact e this.symm
    constructor
    · congr 1
      apply propext
      omega
    · intro h; exact (hD id).2 (by omega)

section
variable {w : World} {b k : Nat} {l : List Qu} {x : Int}
theorem PlM.look_yes (h : PlM w b k l) (hx : I64 x) (hp : pl l x < k) : Sem.run Try.prog (Instr.lookup 71 (.map (some b)) (.int .i64 x) true) w = .ok (.tuple #[.int .i64 (pl l x : Int), .bool true]) w := by
  obtain ⟨D, hown, hD⟩ := h
  obtain ⟨v, ps, hrun, hv⟩ := hown.look_ok lawI Try.underlying71 (zeroI _) (plainElem_int Try.underlying3 (by decide)) (keyI hx)
  obtain ⟨c, rfl, hc, hwc⟩ := plainElem_int_inv Try.underlying3 hv
  have h1 := (hD x).2 hp
  have h2 := congrArg Prod.fst hc
  simp only at h2
  rw [h1] at h2
  simp at h2
  rw [hrun, (hD x).1, ← h2]
  simp [hp]
theorem PlM.look_no (h : PlM w b k l) (hx : I64 x) (hp : ¬ pl l x < k) : Sem.run Try.prog (Instr.lookup 71 (.map (some b)) (.int .i64 x) true) w = .ok (.tuple #[.int .i64 0, .bool false]) w := by
  obtain ⟨D, hown, hD⟩ := h
  obtain ⟨v, ps, hrun, hv⟩ := hown.look_ok lawI Try.underlying71 (zeroI _) (plainElem_int Try.underlying3 (by decide)) (keyI hx)
  obtain ⟨c, rfl, hc, hwc⟩ := plainElem_int_inv Try.underlying3 hv
  have h1 : Maps.has D (.int .i64 x) = false := by rw [(hD x).1]; exact decide_eq_false hp
  have h2 := congrArg Prod.fst hc
  simp only at h2
  rw [atKey_of_not_has h1] at h2
  simp at h2
  rw [hrun, h1, ← h2]
theorem PlM.get (h : PlM w b k l) (hx : I64 x) (hp : pl l x < k) : Sem.run Try.prog (Instr.lookup 71 (.map (some b)) (.int .i64 x) false) w = .ok (.int .i64 (pl l x : Int)) w := by
  obtain ⟨D, hown, hD⟩ := h
  obtain ⟨c, hrun, hat, hwc⟩ := hown.lookup_int lawI Try.underlying71 Try.underlying3 (zeroI _) (keyI hx)
  rw [(hD x).2 hp] at hat
  simp at hat
  rw [hrun, ← hat]
theorem PlM.put (h : PlM w b k l) (hx : (qa l k).ok) (hk : k < l.length) (hm : k < 1000) (hp : pl l (qa l k).id = k) : ∃ w', Sem.run Try.prog (Instr.mapUpdate 71 (.map (some b)) (.int .i64 (qa l k).id) (.int .i64 (k : Int))) w = .ok () w' ∧ PlM w' b (k + 1) l ∧ w.grownBy w' (some b) := by
  obtain ⟨D, hown, hD⟩ := h
  obtain ⟨w', hrun, h1, h2⟩ := hown.update lawI Try.underlying71 (by unfold maxLen; omega) (keyI hx.1) (plainElem_int Try.underlying3 (wfI (x := (k : Int)) (by unfold I64; omega)))
  exact ⟨w', hrun, plM_put (w := w) hD hown.isMap hk hp h1, h2⟩
end

end Go.Proofs.Ytdbkjcnanffibaa
