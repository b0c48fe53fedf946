/-
  Arguments opened: lists of queues and of uses, queues.
-/
import Derived.Test.YtdbkjcnanffibaaQL
import Derived.Test.YtdbkjcnanffibaaQM
import Derived.Deep.Slices
namespace Go.Proofs.Ytdbkjcnanffibaa
open Go.ChangeShapes Go.WideShapes Go.ChangeAt Go.RowKit Go.Deep
set_option linter.unusedVariables false

/-- A use. -/
structure Us where
  qu : Int
  uc : Int
  um : Int
def Us.cs (u : Us) : List Value := [.int .i64 u.qu, .int .i64 u.uc, .int .i64 u.um]
def Us.ok (u : Us) : Prop := I64 u.qu ∧ I64 u.uc ∧ I64 u.um
theorem Us.cs_len (u : Us) : u.cs.length = 3 := rfl
theorem Us.one (x : Us) : ∀ u ∈ x.cs, u.oneCell' = true := by
  intro u hu
  simp [Us.cs] at hu
  rcases hu with rfl | rfl | rfl <;> rfl
abbrev HoldsU (w : World) (a : Option Addr) (len cap : Nat) (l : List Us) : Prop := HoldsE 3 Us.cs w a len cap l

section
variable {H : Type} {enc : TypeId × Value → H} {w : World} {base b0 : Nat} {spare : Nat → Bool} {held : Bool} {r : Reach} {v : Value} {d : DataW H} {p : List MemPlace} {fuel : Nat} {cs : List Value} {x : DataW H × List MemPlace}

set_option maxRecDepth 100000 in
theorem trod_vec (h : DataW.trod enc Try.prog w base spare held fuel 32 cs = some x) : ∃ a b, cs = [.int .i64 a, .int .i64 b] ∧ I64 a ∧ I64 b := by
  obtain ⟨xs, n, _, _, hl, hx, hf⟩ := DataW.trod_struct Try.underlying32 h
  have hc : Try.prog.cellsOf 32 = 2 := by kernel_rfl
  have hc1 : Try.prog.cellsOf 2 = 1 := by kernel_rfl
  rw [hc] at hl
  match cs, hl with
  | [c0, c1], _ =>
    have f0 := hf 0 _ rfl
    have f1 := hf 1 _ rfl
    simp only [List.getElem_toArray, List.getElem_cons_zero, List.getElem_cons_succ] at f0 f1
    rw [hc1] at f0 f1
    rw [List.getElem?_eq_getElem (by rw [hx]; decide)] at f0 f1
    obtain ⟨a, e0, _, w0⟩ := DataW.trod_int Try.underlying2 f0
    obtain ⟨b, e1, _, w1⟩ := DataW.trod_int Try.underlying2 f1
    simp at e0 e1
    subst e0 e1
    exact ⟨a, b, rfl, bounds_i64 w0, bounds_i64 w1⟩

set_option maxRecDepth 100000 in
theorem trod_queue (h : DataW.trod enc Try.prog w base spare held fuel 53 cs = some x) : ∃ q : Qu, cs = q.cs ∧ q.ok := by
  obtain ⟨xs, n, _, _, hl, hx, hf⟩ := DataW.trod_struct Try.underlying53 h
  have hc : Try.prog.cellsOf 53 = 7 := by kernel_rfl
  have hc1 : Try.prog.cellsOf 2 = 1 := by kernel_rfl
  have hc2 : Try.prog.cellsOf 3 = 1 := by kernel_rfl
  have hc3 : Try.prog.cellsOf 32 = 2 := by kernel_rfl
  rw [hc] at hl
  match cs, hl with
  | [c0, c1, c2, c3, c4, c5, c6], _ =>
    have f0 := hf 0 _ rfl
    have f1 := hf 1 _ rfl
    have f2 := hf 2 _ rfl
    have f3 := hf 3 _ rfl
    have f4 := hf 4 _ rfl
    simp only [List.getElem_toArray, List.getElem_cons_zero, List.getElem_cons_succ] at f0 f1 f2 f3 f4
    rw [hc2] at f0 f1
    rw [hc1] at f2
    rw [hc3] at f3 f4
    rw [List.getElem?_eq_getElem (by rw [hx]; decide)] at f0 f1 f2 f3 f4
    obtain ⟨a, e0, _, w0⟩ := DataW.trod_int Try.underlying3 f0
    obtain ⟨b, e1, _, w1⟩ := DataW.trod_int Try.underlying3 f1
    obtain ⟨c, e2, _, w2⟩ := DataW.trod_int Try.underlying2 f2
    obtain ⟨d, e, e3, w3, w4⟩ := trod_vec f3
    obtain ⟨f, g, e4, w5, w6⟩ := trod_vec f4
    simp at e0 e1 e2 e3 e4
    obtain ⟨e3, e3'⟩ := e3
    obtain ⟨e4, e4'⟩ := e4
    subst e0 e1 e2 e3 e3' e4 e4'
    exact ⟨⟨a, b, c, d, e, f, g⟩, rfl, bounds_i64 w0, bounds_i64 w1, bounds_i64 w2, w3, w4, w5, w6⟩

set_option maxRecDepth 100000 in
theorem trod_use (h : DataW.trod enc Try.prog w base spare held fuel 45 cs = some x) : ∃ q : Us, cs = q.cs ∧ q.ok := by
  obtain ⟨xs, n, _, _, hl, hx, hf⟩ := DataW.trod_struct Try.underlying45 h
  have hc : Try.prog.cellsOf 45 = 3 := by kernel_rfl
  have hc2 : Try.prog.cellsOf 3 = 1 := by kernel_rfl
  have hc3 : Try.prog.cellsOf 32 = 2 := by kernel_rfl
  rw [hc] at hl
  match cs, hl with
  | [c0, c1, c2], _ =>
    have f0 := hf 0 _ rfl
    have f1 := hf 1 _ rfl
    simp only [List.getElem_toArray, List.getElem_cons_zero, List.getElem_cons_succ] at f0 f1
    rw [hc2] at f0
    rw [hc3] at f1
    rw [List.getElem?_eq_getElem (by rw [hx]; decide)] at f0 f1
    obtain ⟨a, e0, _, w0⟩ := DataW.trod_int Try.underlying3 f0
    obtain ⟨d, e, e3, w3, w4⟩ := trod_vec f1
    simp at e0 e3
    obtain ⟨e3, e3'⟩ := e3
    subst e0 e3 e3'
    exact ⟨⟨a, d, e⟩, rfl, bounds_i64 w0, w3, w4⟩

set_option maxRecDepth 100000 in
/-- A queue that came in. -/
theorem val_queue (hv : Value.okWide Try.prog w r b0 53 v) (h : DataW.Trod enc Try.prog w base spare held 53 v d p) : ∃ q : Qu, v = .agg #[.int .i64 q.id, .int .i64 q.par, .int .i64 q.wt, .int .i64 q.qc, .int .i64 q.qm, .int .i64 q.mc, .int .i64 q.mm] ∧ q.ok := by
  obtain ⟨cs, rfl, hs⟩ := okWide_struct Try.underlying53 hv
  obtain ⟨fuel, hf⟩ := h
  obtain ⟨q, e, hq⟩ := trod_queue hf
  refine ⟨q, ?_, hq⟩
  have e' : cs.toList = q.cs := by simpa [Value.cells] using e
  have : cs = q.cs.toArray := by rw [← e']
  rw [this]
  rfl

end
instance : Inhabited Qu := ⟨q0⟩
instance : Inhabited Us := ⟨⟨0, 0, 0⟩⟩

end Go.Proofs.Ytdbkjcnanffibaa
