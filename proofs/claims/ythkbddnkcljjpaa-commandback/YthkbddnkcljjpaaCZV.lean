/-
  Arguments opened: queues, nodes, tasks, commands, entries.
-/
import Derived.Test.YthkbddnkcljjpaaLE
import Derived.Test.YthkbddnkcljjpaaOpenS
namespace Go.Proofs.Ythkbddnkcljjpaa
open Go.ChangeShapes Go.WideShapes Go.ChangeAt Go.RowKit Go.Deep
set_option linter.unusedVariables false
set_option linter.unusedSimpArgs false

/-- A queue, a node, a task, a hunger, by their numbers. -/
structure Q7 where
  a : Int
  b : Int
  c : Int
  d : Int
  e : Int
  f : Int
  g : Int
structure N5 where
  a : Int
  b : Int
  c : Int
  d : Int
  e : Int
structure T7 where
  t1 : Int
  t2 : Int
  c : Int
  m : Int
  wk : Int
  sa : Option Addr
  sl : Nat
  sc : Nat
  st : Int
  tk : List Int
structure H2 where
  a : Int
  b : Int
def Q7.cs (q : Q7) : List Value := [.int .i64 q.a, .int .i64 q.b, .int .i64 q.c, .int .i64 q.d, .int .i64 q.e, .int .i64 q.f, .int .i64 q.g]
def N5.cs (q : N5) : List Value := [.int .i64 q.a, .int .i64 q.b, .int .i64 q.c, .int .i64 q.d, .int .i64 q.e]
def T7.cs (q : T7) : List Value := [.int .i64 q.t1, .int .i64 q.t2, .int .i64 q.c, .int .i64 q.m, .int .i64 q.wk, .slice q.sa q.sl q.sc, .int .i64 q.st]
def H2.cs (q : H2) : List Value := [.int .i64 q.a, .int .i64 q.b]
def Q7.ok (q : Q7) : Prop := I64 q.a ∧ I64 q.b ∧ I64 q.c ∧ I64 q.d ∧ I64 q.e ∧ I64 q.f ∧ I64 q.g
def N5.ok (q : N5) : Prop := I64 q.a ∧ I64 q.b ∧ I64 q.c ∧ I64 q.d ∧ I64 q.e
def T7.ok (q : T7) : Prop := (I64 q.t1 ∧ I64 q.t2 ∧ I64 q.c ∧ I64 q.m ∧ I64 q.wk ∧ I64 q.st) ∧ ∀ x ∈ q.tk, I64 x
def H2.ok (q : H2) : Prop := I64 q.a ∧ I64 q.b

section
variable {H : Type} {enc : TypeId × Value → H} {w : World} {base b0 : Nat} {spare : Nat → Bool} {held : Bool} {r : Reach} {v : Value} {d : DataW H} {p : List MemPlace} {fuel : Nat} {cs : List Value} {x : DataW H × List MemPlace}

set_option maxRecDepth 100000 in
theorem trod_vec' (h : DataW.trod enc Try.prog w base spare held fuel 23 cs = some x) : ∃ a b, cs = [.int .i64 a, .int .i64 b] ∧ I64 a ∧ I64 b := by
  obtain ⟨xs, n, _, _, hl, hx, hf⟩ := DataW.trod_struct Try.underlying23 h
  have hc : Try.prog.cellsOf 23 = 2 := by kernel_rfl
  have hc1 : Try.prog.cellsOf 2 = 1 := by kernel_rfl
  rw [hc] at hl
  match cs, hl with
  | [c0, c1], _ =>
    have f0 := hf 0 _ rfl
    have f1 := hf 1 _ rfl
    simp only [List.getElem_toArray, List.getElem_cons_zero, List.getElem_cons_succ] at f0 f1
    rw [hc1] at f0 f1
    rw [List.getElem?_eq_getElem (by rw [hx]; decide)] at f0 f1
    obtain ⟨a, e0, _, w0⟩ := DataW.trod_int Try.underlying2 f0
    obtain ⟨b, e1, _, w1⟩ := DataW.trod_int Try.underlying2 f1
    simp at e0 e1
    subst e0 e1
    exact ⟨a, b, rfl, bounds_i64 w0, bounds_i64 w1⟩

set_option maxRecDepth 100000 in
theorem trod_q7 (h : DataW.trod enc Try.prog w base spare held fuel 25 cs = some x) : ∃ q : Q7, cs = q.cs ∧ q.ok := by
  obtain ⟨xs, n, _, hxe, hl, hx, hf⟩ := DataW.trod_struct Try.underlying25 h
  have hc : Try.prog.cellsOf 25 = 7 := by kernel_rfl
  have hc_int : Try.prog.cellsOf 3 = 1 := by kernel_rfl
  have hc_int64 : Try.prog.cellsOf 2 = 1 := by kernel_rfl
  have hc_vec : Try.prog.cellsOf 23 = 2 := by kernel_rfl
  rw [hc] at hl
  match cs, hl with
  | [c0, c1, c2, c3, c4, c5, c6], _ =>
    have f0 := hf 0 _ rfl
    have f1 := hf 1 _ rfl
    have f2 := hf 2 _ rfl
    have f3 := hf 3 _ rfl
    have f4 := hf 4 _ rfl
    simp only [List.getElem_toArray, List.getElem_cons_zero, List.getElem_cons_succ] at f0 f1 f2 f3 f4
    rw [hc_int] at f0
    rw [hc_int] at f1
    rw [hc_int64] at f2
    rw [hc_vec] at f3
    rw [hc_vec] at f4
    have hxs : xs.length = 5 := by rw [hx]; rfl
    rw [List.getElem?_eq_getElem (by omega)] at f0 f1 f2 f3 f4
    obtain ⟨a0, e0, _, w0⟩ := DataW.trod_int Try.underlying3 f0
    obtain ⟨a1, e1, _, w1⟩ := DataW.trod_int Try.underlying3 f1
    obtain ⟨a2, e2, _, w2⟩ := DataW.trod_int Try.underlying2 f2
    obtain ⟨a3, b3, e3, w3, v3⟩ := trod_vec' f3
    obtain ⟨a4, b4, e4, w4, v4⟩ := trod_vec' f4
    simp at e0 e1 e2 e3 e4
    obtain ⟨e3_0, e3_1⟩ := e3
    obtain ⟨e4_0, e4_1⟩ := e4
    subst e0 e1 e2 e3_0 e3_1 e4_0 e4_1
    exact ⟨⟨a0, a1, a2, a3, b3, a4, b4⟩, rfl, bounds_i64 w0, bounds_i64 w1, bounds_i64 w2, w3, v3, w4, v4⟩

set_option maxRecDepth 100000 in
theorem trod_n5 (h : DataW.trod enc Try.prog w base spare held fuel 27 cs = some x) : ∃ q : N5, cs = q.cs ∧ q.ok := by
  obtain ⟨xs, n, _, hxe, hl, hx, hf⟩ := DataW.trod_struct Try.underlying27 h
  have hc : Try.prog.cellsOf 27 = 5 := by kernel_rfl
  have hc_int : Try.prog.cellsOf 3 = 1 := by kernel_rfl
  have hc_int64 : Try.prog.cellsOf 2 = 1 := by kernel_rfl
  rw [hc] at hl
  match cs, hl with
  | [c0, c1, c2, c3, c4], _ =>
    have f0 := hf 0 _ rfl
    have f1 := hf 1 _ rfl
    have f2 := hf 2 _ rfl
    have f3 := hf 3 _ rfl
    have f4 := hf 4 _ rfl
    simp only [List.getElem_toArray, List.getElem_cons_zero, List.getElem_cons_succ] at f0 f1 f2 f3 f4
    rw [hc_int] at f0
    rw [hc_int] at f1
    rw [hc_int64] at f2
    rw [hc_int] at f3
    rw [hc_int] at f4
    have hxs : xs.length = 5 := by rw [hx]; rfl
    rw [List.getElem?_eq_getElem (by omega)] at f0 f1 f2 f3 f4
    obtain ⟨a0, e0, _, w0⟩ := DataW.trod_int Try.underlying3 f0
    obtain ⟨a1, e1, _, w1⟩ := DataW.trod_int Try.underlying3 f1
    obtain ⟨a2, e2, _, w2⟩ := DataW.trod_int Try.underlying2 f2
    obtain ⟨a3, e3, _, w3⟩ := DataW.trod_int Try.underlying3 f3
    obtain ⟨a4, e4, _, w4⟩ := DataW.trod_int Try.underlying3 f4
    simp at e0 e1 e2 e3 e4
    subst e0 e1 e2 e3 e4
    exact ⟨⟨a0, a1, a2, a3, a4⟩, rfl, bounds_i64 w0, bounds_i64 w1, bounds_i64 w2, bounds_i64 w3, bounds_i64 w4⟩

set_option maxRecDepth 100000 in
theorem trod_t7 (h : DataW.trod enc Try.prog w base (fun _ => true) held fuel 30 cs = some x) : ∃ q : T7, cs = q.cs ∧ HoldsN w q.sa q.sl q.sc q.tk ∧ q.ok ∧ ((x.1.weights Try.prog 30).all (· ≤ reachBytes) = true → q.sc * 8 ≤ 140737488351232) := by
  obtain ⟨xs, n, _, hxe, hl, hx, hf⟩ := DataW.trod_struct Try.underlying30 h
  have hc : Try.prog.cellsOf 30 = 7 := by kernel_rfl
  have hc_int : Try.prog.cellsOf 3 = 1 := by kernel_rfl
  have hc_ints : Try.prog.cellsOf 28 = 1 := by kernel_rfl
  have hc_vec : Try.prog.cellsOf 23 = 2 := by kernel_rfl
  rw [hc] at hl
  match cs, hl with
  | [c0, c1, c2, c3, c4, c5, c6], _ =>
    have f0 := hf 0 _ rfl
    have f1 := hf 1 _ rfl
    have f2 := hf 2 _ rfl
    have f3 := hf 3 _ rfl
    have f4 := hf 4 _ rfl
    have f5 := hf 5 _ rfl
    simp only [List.getElem_toArray, List.getElem_cons_zero, List.getElem_cons_succ] at f0 f1 f2 f3 f4 f5
    rw [hc_int] at f0
    rw [hc_int] at f1
    rw [hc_vec] at f2
    rw [hc_int] at f3
    rw [hc_ints] at f4
    rw [hc_int] at f5
    have hxs : xs.length = 6 := by rw [hx]; rfl
    rw [List.getElem?_eq_getElem (by omega)] at f0 f1 f2 f3 f4 f5
    obtain ⟨a0, e0, _, w0⟩ := DataW.trod_int Try.underlying3 f0
    obtain ⟨a1, e1, _, w1⟩ := DataW.trod_int Try.underlying3 f1
    obtain ⟨a2, b2, e2, w2, v2⟩ := trod_vec' f2
    obtain ⟨a3, e3, _, w3⟩ := DataW.trod_int Try.underlying3 f3
    obtain ⟨a5, e5, _, w5⟩ := DataW.trod_int Try.underlying3 f5
    simp at e0 e1 e2 e3 e5
    obtain ⟨e2_0, e2_1⟩ := e2
    subst e0 e1 e2_0 e2_1 e3 e5
    rcases open_ints Try.underlying28 Try.underlying3 hc_int f4 with ⟨e4, _⟩ | ⟨ad, len, cap, zs, e4, _, h1, h2, h3, h4, h5, h6⟩
    · simp at e4
      subst e4
      exact ⟨⟨a0, a1, a2, b2, a3, none, 0, 0, a5, []⟩, rfl, ⟨rfl, Nat.le_refl 0, Nat.zero_le _, fun _ => ⟨rfl, rfl⟩, fun h => absurd h (Nat.lt_irrefl 0)⟩, ⟨⟨bounds_i64 w0, bounds_i64 w1, w2, v2, bounds_i64 w3, bounds_i64 w5⟩, fun z hz => by cases hz⟩, fun _ => by simp⟩
    · simp at e4
      subst e4
      simp only [if_true] at h3
      refine ⟨⟨a0, a1, a2, b2, a3, some ad, len, cap, a5, zs.take len⟩, rfl, holds_ints h1 h2 h3 h5, ⟨⟨bounds_i64 w0, bounds_i64 w1, w2, v2, bounds_i64 w3, bounds_i64 w5⟩, fun z hz => bounds_i64 (h6 z (List.mem_of_mem_take hz))⟩, fun hw => ?_⟩
      rw [List.all_eq_true] at hw
      have hm : cap * 8 ∈ x.1.weights Try.prog 30 := by
        rw [hxe]
        simp only [DataW.weights, Try.underlying30]
        refine DataW.weights_mem_each (j := 4) (t := 28) (d := xs[4].1) rfl (by rw [List.getElem?_map, List.getElem?_eq_getElem (by omega)]; rfl) _ ?_
        rw [h4]
        simp only [DataW.weights, Try.underlying28]
        have hb : Try.prog.bytesOf 3 = 8 := by kernel_rfl
        rw [hb]
        have hlen : (lits (H := H) IntKind.i64 (zs.take len)).length + (lits (H := H) IntKind.i64 (zs.drop len)).length = cap := by
          simp [lits]; omega
        rw [hlen]
        exact List.mem_cons_self
      have := of_decide_eq_true (hw _ hm)
      simpa [reachBytes] using this

set_option maxRecDepth 100000 in
theorem trod_h2 (h : DataW.trod enc Try.prog w base spare held fuel 94 cs = some x) : ∃ q : H2, cs = q.cs ∧ q.ok := by
  obtain ⟨xs, n, _, hxe, hl, hx, hf⟩ := DataW.trod_struct Try.underlying94 h
  have hc : Try.prog.cellsOf 94 = 2 := by kernel_rfl
  have hc_int : Try.prog.cellsOf 3 = 1 := by kernel_rfl
  have hc_int64 : Try.prog.cellsOf 2 = 1 := by kernel_rfl
  rw [hc] at hl
  match cs, hl with
  | [c0, c1], _ =>
    have f0 := hf 0 _ rfl
    have f1 := hf 1 _ rfl
    simp only [List.getElem_toArray, List.getElem_cons_zero, List.getElem_cons_succ] at f0 f1
    rw [hc_int] at f0
    rw [hc_int64] at f1
    have hxs : xs.length = 2 := by rw [hx]; rfl
    rw [List.getElem?_eq_getElem (by omega)] at f0 f1
    obtain ⟨a0, e0, _, w0⟩ := DataW.trod_int Try.underlying3 f0
    obtain ⟨a1, e1, _, w1⟩ := DataW.trod_int Try.underlying2 f1
    simp at e0 e1
    subst e0 e1
    exact ⟨⟨a0, a1⟩, rfl, bounds_i64 w0, bounds_i64 w1⟩

set_option maxRecDepth 100000 in
theorem trod_cmd (h : DataW.trod enc Try.prog w base (fun _ => true) held fuel 32 cs = some x) : ∃ (kd ci ir bt si : Int) (q : Q7) (n : N5) (t : T7), cs = [.int .i64 kd, .int .i64 ci, .int .i64 ir, .int .i64 bt, .int .i64 si] ++ (q.cs ++ (n.cs ++ t.cs)) ∧ HoldsN w t.sa t.sl t.sc t.tk ∧ ((I64 kd ∧ I64 ci ∧ I64 ir ∧ I64 bt ∧ I64 si) ∧ q.ok ∧ n.ok ∧ t.ok) ∧ ((x.1.weights Try.prog 32).all (· ≤ reachBytes) = true → t.sc * 8 ≤ 140737488351232) := by
  obtain ⟨xs, n, _, hxe, hl, hx, hf⟩ := DataW.trod_struct Try.underlying32 h
  have hc : Try.prog.cellsOf 32 = 24 := by kernel_rfl
  have hc_N : Try.prog.cellsOf 27 = 5 := by kernel_rfl
  have hc_Q : Try.prog.cellsOf 25 = 7 := by kernel_rfl
  have hc_T : Try.prog.cellsOf 30 = 7 := by kernel_rfl
  have hc_int : Try.prog.cellsOf 3 = 1 := by kernel_rfl
  have hc_int64 : Try.prog.cellsOf 2 = 1 := by kernel_rfl
  rw [hc] at hl
  match cs, hl with
  | [c0, c1, c2, c3, c4, c5, c6, c7, c8, c9, c10, c11, c12, c13, c14, c15, c16, c17, c18, c19, c20, c21, c22, c23], _ =>
    have f0 := hf 0 _ rfl
    have f1 := hf 1 _ rfl
    have f2 := hf 2 _ rfl
    have f3 := hf 3 _ rfl
    have f4 := hf 4 _ rfl
    have f5 := hf 5 _ rfl
    have f6 := hf 6 _ rfl
    have f7 := hf 7 _ rfl
    simp only [List.getElem_toArray, List.getElem_cons_zero, List.getElem_cons_succ] at f0 f1 f2 f3 f4 f5 f6 f7
    rw [hc_int] at f0
    rw [hc_int] at f1
    rw [hc_int] at f2
    rw [hc_int] at f3
    rw [hc_int64] at f4
    rw [hc_Q] at f5
    rw [hc_N] at f6
    rw [hc_T] at f7
    have hxs : xs.length = 8 := by rw [hx]; rfl
    rw [List.getElem?_eq_getElem (by omega)] at f0 f1 f2 f3 f4 f5 f6 f7
    obtain ⟨a0, e0, _, w0⟩ := DataW.trod_int Try.underlying3 f0
    obtain ⟨a1, e1, _, w1⟩ := DataW.trod_int Try.underlying3 f1
    obtain ⟨a2, e2, _, w2⟩ := DataW.trod_int Try.underlying3 f2
    obtain ⟨a3, e3, _, w3⟩ := DataW.trod_int Try.underlying3 f3
    obtain ⟨a4, e4, _, w4⟩ := DataW.trod_int Try.underlying2 f4
    obtain ⟨a5, e5, w5⟩ := trod_q7 f5
    obtain ⟨a6, e6, w6⟩ := trod_n5 f6
    obtain ⟨a7, e7, h7, w7, s7⟩ := trod_t7 f7
    simp only [Q7.cs, N5.cs, T7.cs, List.append, List.nil_append, List.cons_append] at e0 e1 e2 e3 e4 e5 e6 e7
    simp at e0 e1 e2 e3 e4 e5 e6 e7
    obtain ⟨e5_0, e5_1, e5_2, e5_3, e5_4, e5_5, e5_6⟩ := e5
    obtain ⟨e6_0, e6_1, e6_2, e6_3, e6_4⟩ := e6
    obtain ⟨e7_0, e7_1, e7_2, e7_3, e7_4, e7_5, e7_6⟩ := e7
    subst e0 e1 e2 e3 e4 e5_0 e5_1 e5_2 e5_3 e5_4 e5_5 e5_6 e6_0 e6_1 e6_2 e6_3 e6_4 e7_0 e7_1 e7_2 e7_3 e7_4 e7_5 e7_6
    exact ⟨a0, a1, a2, a3, a4, a5, a6, a7, rfl, h7, ⟨⟨bounds_i64 w0, bounds_i64 w1, bounds_i64 w2, bounds_i64 w3, bounds_i64 w4⟩, w5, w6, w7⟩, fun hw => s7 (by
      rw [List.all_eq_true] at hw ⊢
      intro z hz
      refine hw z ?_
      rw [hxe]
      simp only [DataW.weights, Try.underlying32]
      exact DataW.weights_mem_each (j := 7) (t := 30) (d := xs[7].1) rfl (by rw [List.getElem?_map, List.getElem?_eq_getElem (by omega)]; rfl) _ hz)⟩

set_option maxRecDepth 100000 in
theorem trod_ent (h : DataW.trod enc Try.prog w base (fun _ => true) held fuel 34 cs = some x) : ∃ (gp cl sq kd ci ir bt si : Int) (q : Q7) (n : N5) (t : T7), cs = [.int .i64 gp, .int .i64 cl, .int .i64 sq] ++ ([.int .i64 kd, .int .i64 ci, .int .i64 ir, .int .i64 bt, .int .i64 si] ++ (q.cs ++ (n.cs ++ t.cs))) ∧ HoldsN w t.sa t.sl t.sc t.tk ∧ ((I64 gp ∧ I64 cl ∧ I64 sq) ∧ (I64 kd ∧ I64 ci ∧ I64 ir ∧ I64 bt ∧ I64 si) ∧ q.ok ∧ n.ok ∧ t.ok) ∧ ((x.1.weights Try.prog 34).all (· ≤ reachBytes) = true → t.sc * 8 ≤ 140737488351232) := by
  obtain ⟨xs, n, _, hxe, hl, hx, hf⟩ := DataW.trod_struct Try.underlying34 h
  have hc : Try.prog.cellsOf 34 = 27 := by kernel_rfl
  have hc_C : Try.prog.cellsOf 32 = 24 := by kernel_rfl
  have hc_int : Try.prog.cellsOf 3 = 1 := by kernel_rfl
  have hc_int64 : Try.prog.cellsOf 2 = 1 := by kernel_rfl
  rw [hc] at hl
  match cs, hl with
  | [c0, c1, c2, c3, c4, c5, c6, c7, c8, c9, c10, c11, c12, c13, c14, c15, c16, c17, c18, c19, c20, c21, c22, c23, c24, c25, c26], _ =>
    have f0 := hf 0 _ rfl
    have f1 := hf 1 _ rfl
    have f2 := hf 2 _ rfl
    have f3 := hf 3 _ rfl
    simp only [List.getElem_toArray, List.getElem_cons_zero, List.getElem_cons_succ] at f0 f1 f2 f3
    rw [hc_int64] at f0
    rw [hc_int] at f1
    rw [hc_int] at f2
    rw [hc_C] at f3
    have hxs : xs.length = 4 := by rw [hx]; rfl
    rw [List.getElem?_eq_getElem (by omega)] at f0 f1 f2 f3
    obtain ⟨a0, e0, _, w0⟩ := DataW.trod_int Try.underlying2 f0
    obtain ⟨a1, e1, _, w1⟩ := DataW.trod_int Try.underlying3 f1
    obtain ⟨a2, e2, _, w2⟩ := DataW.trod_int Try.underlying3 f2
    obtain ⟨k0, k1, k2, k3, k4, kq, kn, kt, e3, h3, w3, s3⟩ := trod_cmd f3
    simp only [Q7.cs, N5.cs, T7.cs, List.append, List.nil_append, List.cons_append] at e0 e1 e2 e3
    simp at e0 e1 e2 e3
    obtain ⟨e3_0, e3_1, e3_2, e3_3, e3_4, e3_5, e3_6, e3_7, e3_8, e3_9, e3_10, e3_11, e3_12, e3_13, e3_14, e3_15, e3_16, e3_17, e3_18, e3_19, e3_20, e3_21, e3_22, e3_23⟩ := e3
    subst e0 e1 e2 e3_0 e3_1 e3_2 e3_3 e3_4 e3_5 e3_6 e3_7 e3_8 e3_9 e3_10 e3_11 e3_12 e3_13 e3_14 e3_15 e3_16 e3_17 e3_18 e3_19 e3_20 e3_21 e3_22 e3_23
    exact ⟨a0, a1, a2, k0, k1, k2, k3, k4, kq, kn, kt, rfl, h3, ⟨⟨bounds_i64 w0, bounds_i64 w1, bounds_i64 w2⟩, w3⟩, fun hw => s3 (by
      rw [List.all_eq_true] at hw ⊢
      intro z hz
      refine hw z ?_
      rw [hxe]
      simp only [DataW.weights, Try.underlying34]
      exact DataW.weights_mem_each (j := 3) (t := 32) (d := xs[3].1) rfl (by rw [List.getElem?_map, List.getElem?_eq_getElem (by omega)]; rfl) _ hz)⟩

set_option maxRecDepth 100000 in
/-- An entry that came in. -/
theorem val_entry (hv : Value.okWide Try.prog w r b0 34 v) (h : DataW.Trod enc Try.prog w base (fun _ => true) held 34 v d p) : ∃ (gp cl sq kd ci ir bt si : Int) (q : Q7) (n : N5) (t : T7), v = .agg #[.int .i64 gp, .int .i64 cl, .int .i64 sq, .int .i64 kd, .int .i64 ci, .int .i64 ir, .int .i64 bt, .int .i64 si, .int .i64 q.a, .int .i64 q.b, .int .i64 q.c, .int .i64 q.d, .int .i64 q.e, .int .i64 q.f, .int .i64 q.g, .int .i64 n.a, .int .i64 n.b, .int .i64 n.c, .int .i64 n.d, .int .i64 n.e, .int .i64 t.t1, .int .i64 t.t2, .int .i64 t.c, .int .i64 t.m, .int .i64 t.wk, .slice t.sa t.sl t.sc, .int .i64 t.st] ∧ HoldsN w t.sa t.sl t.sc t.tk ∧ ((I64 gp ∧ I64 cl ∧ I64 sq) ∧ (I64 kd ∧ I64 ci ∧ I64 ir ∧ I64 bt ∧ I64 si) ∧ q.ok ∧ n.ok ∧ t.ok) ∧ ((d.weights Try.prog 34).all (· ≤ reachBytes) = true → t.sc * 8 ≤ 140737488351232) := by
  obtain ⟨cs, rfl, hs⟩ := okWide_struct Try.underlying34 hv
  obtain ⟨fuel, hf⟩ := h
  obtain ⟨gp, cl, sq, kd, ci, ir, bt, si, q, n, t, e, h1, h2, h3⟩ := trod_ent hf
  refine ⟨gp, cl, sq, kd, ci, ir, bt, si, q, n, t, ?_, h1, h2, h3⟩
  exact congrArg Value.agg (Array.toList_inj.1 e)
end
end Go.Proofs.Ythkbddnkcljjpaa
