/-
  Rows of cells inside a fence: load, store; a range over a function whose rounds lay memory of their own for what is yielded.
  Contracts of command: the reader's elements: queues, nodes, hungers.
  Contracts of command: the reader's lists of queues, nodes, hungers.
  Contracts of command: the reader's lease.
  Contracts of command: the reader's elements: tasks, leases.
  Contracts of command: the reader's lists of tasks, leases.
  Contracts of command: the reader's answer and state.
  Contracts of command: an answer, a state are decoded.
  Contracts of furlongref10: what the program and the document read is alike.
-/
import Derived.Test.YthkbddnkcljjpaaMCX
import Derived.Test.YthkbddnkcljjpaaCS
import Derived.Stop.RegionWithIn
import Derived.TacticsInMore
import Derived.Test.YthkbddnkcljjpaaMCR
import Derived.Test.YthkbddnkcljjpaaCZV
import Derived.Test.YthkbddnkcljjpaaMED
import Derived.Shelf.Abstract
import Derived.Shelf.RegionOpen
import Derived.LoopNIn
import Derived.LoopIn
import Derived.Maps.AppendAt
import Derived.Test.YthkbddnkcljjpaaMEJ
import Derived.Test.YthkbddnkcljjpaaMCZ
namespace Go.Proofs.Ythkbddnkcljjpaa
open Go.RowKit Go.Deep Go.Maps
set_option linter.unusedVariables false
set_option linter.unusedSimpArgs false

section
variable {F : Fence} {n : Nat} {ops : Array Oper} {rest : List Oper} {op : Oper} {a : Act} {w : World} {Q : Exit → Act → World → Prop}
theorem wpListIn_load_at (ty : Nat) (hw : Region.wanted op (yielded ops a.tmps) = true) (x : Operand) (ho : op.op = .load ty x) (b o : Nat) (hx : a.eval x = .pointer (some ⟨b, o, none⟩)) (cs : Array Value) (hl : (Instr.loadAt ty (.pointer (some ⟨b, o, none⟩))).run Try.prog w = .ok (.agg cs) w)
    (h : wpListIn F n Try.prog ops Q rest (a.put op.dst (.agg cs)) w) : wpListIn F n Try.prog ops Q (op :: rest) a w := by
  refine Go.BigFrame.wpListIn_want hw fun _ hK => ⟨fun f hf => ?_, ?_⟩
  · simp [Oper.about, ho] at hf
  · rw [Oper.semAt_eq _ _ _ (by simp [ho])]
    unfold execOp
    simp only [ho, hx, Sem.run_bind, Sem.run_pure, hl, Result.andThen_ok]
    exact hK _ _ h
theorem wpListIn_store_new (hgd : op.guard = none) (ty : TypeId) (x y : Operand) (ho : op.op = .store ty x y) (cells : Array Value) (hx : a.eval x = .pointer (some ⟨w.heap.size, 0, none⟩)) (hy : a.eval y = .agg cells)
    (t : TypeId) (old : Array Value) (hi : (Try.prog.info? ty).map (·.size) = some cells.size) (hold : old.size = cells.size) (h1 : cells.all (·.oneCell') = true) (W : World) (hW : w.alloc (.cells cells t) = W)
    (h : wpListIn F n Try.prog ops Q rest (a.put op.dst undef) W) : wpListIn F n Try.prog ops Q (op :: rest) a (w.alloc (.cells old t)) := by
  subst hW
  rw [← alloc_row (old := old)] at h
  refine wpListIn_plain hgd fun _ hK => ⟨fun f hf => ?_, ?_⟩
  · simp [Oper.about, ho] at hf
  · rw [Oper.semAt_eq _ _ _ (by simp [ho])]
    unfold execOp
    simp only [ho, hx, hy, Instr.storeAt, Instr.sureAddr, Sem.run_bind, Sem.run_pure, Result.andThen_ok, run_storeVar_row (w.alloc (.cells old t)) w.heap.size t ty old cells (heap_alloc_new w _) hi hold h1]
    exact hK _ _ h
end

theorem wpIn_rangeFunc_y {F : Fence} {n : Nat} {P : Program} {g : Operand} {ps : Array Tmp} {assign body : Code} {Q : Exit → Act → World → Prop} {a : Act} {w : World}
    (hro : F.round = none) (h1 : 1 ≤ n) {gf : Nat} {lb : Array Value} (hg : a.eval g = .func (.func gf) #[] lb) (hFg : F.fn gf) (eg : ∀ args w, (callFunc gf args).run P w = .ok (.enter gf args) w)
    {N : Nat} {Rd : Nat → World → Prop} {Stp : Nat → Value → World → World → Prop} {Fin : World → World → Prop} (hT : TurnsX F (n - 1) P gf lb N Rd Stp Fin w) (hps : ps.size = 1)
    (I : Nat → World → Prop) (IM : Nat → Value → World → Prop) (IA : Nat → Value → Act → World → Prop) (IF : World → Prop) (hI : OwnFrom w.heap.size I) (hIM : ∀ x, OwnFrom w.heap.size (fun k => IM k x)) (hIA : ∀ x a, OwnFrom w.heap.size (fun k => IA k x a)) (hIF : OwnFrom w.heap.size (fun (_ : Nat) => IF)) (h0 : I 0 w) (hRd : ∀ k A, I k A → Rd k A)
    (hStp : ∀ k x A B, I k A → k < N → Stp k x A B → IM k x B) (hFin : ∀ A B, I N A → Fin A B → IF B)
    (hKeep : ∀ k x A B (i : Nat) (o : Obj), I k A → Stp k x A B → w.heap.size ≤ i → A.heap[i]? = some o → o.isCells = false → B.heap[i]? = some o)
    (hKeepF : ∀ A B (i : Nat) (o : Obj), I N A → Fin A B → w.heap.size ≤ i → A.heap[i]? = some o → o.isCells = false → B.heap[i]? = some o)
    (hassign : ∀ (l k : Nat) (x : Value) (W : World) (K : Act → World → Prop), IM k x W → k < N → (∀ a1 W1, IA k x a1 W1 → KeepsFrom w.heap.size W W1 → K a1 W1) → assign.wpIn (F.inRound l) (n - 1 - 1) P (Exit.then K (fun _ _ _ => False)) { tmps := (ps.zip #[x]).foldl (fun t (p, v) => t.setIfInBounds p v) a.tmps, defers := [] } W)
    (hbody : ∀ (l k : Nat) (x : Value) (a1 : Act) (W : World), IA k x a1 W → k < N → body.wpIn (F.inRound l) (n - 1 - 1) P (fun e _ W' => e = .normal ∧ KeepsFrom w.heap.size W W' ∧ I (k + 1) W') a1 W)
    (hdone : ∀ (D : Nat) (W : World), w.heap.size ≤ D → IF W → W.heap[D]? = some (.deferred (some [])) → Q .normal { a with defers := { target := .collected D, args := #[] } :: a.defers } W) :
    (Code.rangeFunc g ps assign body).wpIn F n P Q a w := by
  refine wpIn_rangeFunc (fun fn hfn => ?_)
  rw [hro]
  let rec' : LoopState → Loop := fun st => { state := st, pending := none, fn, tmps := a.tmps, params := ps, assign, body, defers := w.heap.size }
  obtain ⟨L, hL⟩ : ∃ L, w.heap.size + 1 = L := ⟨_, rfl⟩
  obtain ⟨W1, hW1⟩ : ∃ W1, (w.alloc (.deferred (some []))).alloc (.loop (rec' .ready)) = W1 := ⟨_, rfl⟩
  have bW : Below w.heap.size w W1 := by rw [← hW1]; exact ((Below.refl _ w).alloc (Nat.le_refl _) _).alloc (by simp) _
  have lW : W1.heap[L]? = some (.loop (rec' .ready)) := by
    rw [← hW1, ← hL]; have := World.alloc_heap_new (w.alloc (.deferred (some []))) (.loop (rec' .ready)); rwa [World.size_alloc] at this
  have dW : W1.heap[w.heap.size]? = some (.deferred (some [])) := by
    rw [← hW1]; exact (Below.heap_alloc _ _ _ (by simp)).trans (World.alloc_heap_new w _)
  have iW : I 0 W1 := by rw [← hW1]; exact hI.alloc _ (hI.alloc _ h0)
  let Bk : World → Prop := fun W => W.heap[L]? = some (.loop (rec' .ready)) ∧ W.heap[w.heap.size]? = some (.deferred (some []))
  refine ⟨L, [{ target := .collected w.heap.size, args := #[] }], W1, { target := .fn (.func gf) lb, args := #[.func (.yield L) #[] #[]] }, W1, gf, #[.func (.yield L) #[] #[]] ++ lb, W1, ?_, ?_, ?_, ?_, fun _ => h1, ?_⟩
  · rw [← hW1, ← hL]; exact run_enterLoop_outer _ _ _ _ _
  · simp only [resolve, hg]
    simp [go_sem]
  · intro f' hf'; simp [Target.leads] at hf'; subst hf'; exact hFg
  · simp [invoke, go_sem, eg]
  · refine (hT L (fun k W => I k W ∧ Bk W) (fun k x W => IM k x W ∧ Bk W) (fun W => IF W ∧ Bk W) W1 bW (fun k A h => hRd k A h.1) (fun k x A B h hk hs => ⟨hStp k x A B h.1 hk hs, hKeep k x A B _ _ h.1 hs (by omega) h.2.1 rfl, hKeep k x A B _ _ h.1 hs (Nat.le_refl _) h.2.2 rfl⟩)
      (fun A B h hs => ⟨hFin A B h.1 hs, hKeepF A B _ _ h.1 hs (by omega) h.2.1 rfl, hKeepF A B _ _ h.1 hs (Nat.le_refl _) h.2.2 rfl⟩) ?_ ⟨iW, lW, dW⟩).mono ?_
    · rintro k x W ⟨hi, hl, hd⟩ hk
      have hy := run_yield (P := P) (args := #[x]) hl (by simp [rec', hps])
      refine ⟨fn, _, assign, body, hy, roundIn_of_wpIn hfn (hassign _ k x W _ hi hk (fun a1 WA hia hka => ?_))⟩
      have hl := hka.same _ _ (by omega) hl rfl
      have hd := hka.same _ _ (Nat.le_refl _) hd rfl
      have hlt : L < WA.heap.size := (Array.getElem?_eq_some_iff.1 hl).1
      refine ⟨_, run_beginRound hl rfl, ?_⟩
      have l2 : (WA.putObj L (.loop { rec' .ready with state := .busy })).heap[L]? = some (.loop { rec' .ready with state := .busy }) := World.putObj_heap_same hlt
      have d2 : (WA.putObj L (.loop { rec' .ready with state := .busy })).heap[w.heap.size]? = some (.deferred (some [])) := (World.putObj_heap_other (by omega)).trans hd
      refine wpIn_mono (hbody L k x _ _ ((hIA x a1).putObj _ hia (by omega) hl rfl) hk) ?_
      rintro e a3 W3 ⟨rfl, hk3, hi3⟩
      have l3 := hk3.same _ _ (by omega) l2 rfl
      have d3 := hk3.same _ _ (Nat.le_refl _) d2 rfl
      refine ⟨_, _, run_endRound (P := P) none l3, rfl, hI.putObj _ hi3 (by omega) l3 rfl, ?_, ?_⟩
      · exact World.putObj_heap_same (Array.getElem?_eq_some_iff.1 l3).1
      · exact (World.putObj_heap_other (by omega)).trans d3
    · rintro e W2 ⟨⟨v, rfl⟩, hi, hl, hd⟩
      exact ⟨none, _, run_endLoop (P := P) hl (by simp [rec']), hdone _ _ (Nat.le_refl _) (hIF.putObj (s := (0 : Nat)) _ hi (by omega) hl rfl) ((World.putObj_heap_other (by omega)).trans hd)⟩
end Go.Proofs.Ythkbddnkcljjpaa

namespace Go.Proofs.Ythkbddnkcljjpaa
open Go.RowKit Go.Deep Go.Maps
set_option linter.unusedVariables false
set_option linter.unusedSimpArgs false
attribute [local go_sem] Oper.semAt_some
attribute [local go_sem ↓] appF_eq
set_option maxRecDepth 100000 in
set_option maxHeartbeats 8000000 in
theorem rdhunger_any (p : Nat) (a : Option Addr) (n c : Nat) (l : List Int) (A E : Int) (w : World) (h : RdC w p (.slice a n c) A E) (hl : HoldsB w a n c l) (h0 : 0 ≤ A) (h1 : A ≤ n) (hne : ∀ b o, a = some ⟨b, o, none⟩ → 0 < n → b ≠ p) :
    Calls Try.prog 101 #[.pointer (some ⟨p, 0, none⟩)] w fun e w' => e = .returned (.agg #[.int .i64 (tkc l A E 0).1, .int .i64 (tkc l A E 1).1]) ∧ RdC w' p (.slice a n c) (tkc l A E 1).2.1 (tkc l A E 1).2.2 ∧ RK p w w' := by
  have hlen := hl.1
  have hcap := hl.2.1
  have hcm := hl.2.2.1
  have hP := h.lt
  have AT := hid (tkc_at l A E h0 (by omega))
  go_enter Try.func101, Try.ntmps101
  go_upto_region 1 with fail
  have B0 := (Below.refl w.heap.size w).alloc (Nat.le_refl _) (.cells #[.int .i64 0, .int .i64 0] 94)
  have H0 := hid (h.below B0)
  have L0 := hid (hl.below B0)
  have K0 : Hid (RK p w (w.alloc (.cells #[.int .i64 0, .int .i64 0] 94))) := WK.of_below B0
  have BX := hid (Box.alloc w #[.int .i64 0, .int .i64 0] (94))
  have FR : Hid (∀ j, (w.alloc (.cells #[.int .i64 0, .int .i64 0] 94)).frozen? ⟨w.heap.size, j, none⟩ = false) := fun j => by simp [go_sem]
  have hQ : w.heap.size ≠ p := by omega
  have hQl : w.heap.size < (w.alloc (.cells #[.int .i64 0, .int .i64 0] 94)).heap.size := by simp
  have HQl := hid hQl
  clear h hl B0 hP hQl
  generalize (w.alloc (.cells #[.int .i64 0, .int .i64 0] 94)) = W0 at *
  generalize hq : w.heap.size = QB at *
  have C0 : Hid (Calls Try.prog 86 #[.pointer (some ⟨p, 0, none⟩)] W0 fun e w' => e = .returned (.int .i64 (tkc l A E 0).1) ∧ RdC w' p (.slice a n c) (tkc l A E 0).2.1 (tkc l A E 0).2.2 ∧ RK p W0 w') := rint_any p a n c l A E W0 H0.out L0.out ⟨by omega, by omega⟩ hne
  go_wp2_with fail
  with_reducible refine C0.out.mono ?_
  rintro e W1 ⟨rfl, r0, k0⟩
  have H1 := hid r0
  have L1 := hid (k0.holds L0.out hne)
  replace FR := hid (k0.frs FR.out HQl.out hQ)
  replace BX := hid (BX.out.rk k0 hQ)
  replace HQl := hid (Nat.lt_of_lt_of_le HQl.out k0.size)
  have K1 := hid (K0.out.trans k0)
  clear C0 r0 k0 H0 L0 K0
  have C1 : Hid (Calls Try.prog 85 #[.pointer (some ⟨p, 0, none⟩)] W1 fun e w' => e = .returned (.int .i64 (tkc l A E 1).1) ∧ RdC w' p (.slice a n c) (tkc l A E 1).2.1 (tkc l A E 1).2.2 ∧ RK p W1 w') := rint64_any p a n c l (tkc l A E 0).2.1 (tkc l A E 0).2.2 W1 H1.out L1.out ⟨by have := AT.out 0; omega, by have := AT.out 0; omega⟩ hne
  go_wp2_with fail
  with_reducible refine C1.out.mono ?_
  rintro e W2 ⟨rfl, r1, k1⟩
  have H2 := hid r1
  have L2 := hid (k1.holds L1.out hne)
  replace FR := hid (k1.frs FR.out HQl.out hQ)
  replace BX := hid (BX.out.rk k1 hQ)
  replace HQl := hid (Nat.lt_of_lt_of_le HQl.out k1.size)
  have K2 := hid (K1.out.trans k1)
  clear C1 r1 k1 H1 L1 K1
  generalize hx0 : (tkc l A E 0).1 = x0 at *
  have X0 := hid hx0
  clear hx0
  generalize hx1 : (tkc l A E 1).1 = x1 at *
  have X1 := hid hx1
  clear hx1
  have y0 := BX.out 0 (.int .i64 0) rfl
  have f0 := FR.out 0
  have y1 := BX.out 1 (.int .i64 0) rfl
  have f1 := FR.out 1
  go_wp2_with fail
  have z0 : ((W2.setCell ⟨QB, 0, none⟩ (.int .i64 x0)).setCell ⟨QB, 1, none⟩ (.int .i64 x1)).cell? ⟨QB, 0, none⟩ = some (.int .i64 x0) := by simp [go_sem, y0, y1]
  have z1 : ((W2.setCell ⟨QB, 0, none⟩ (.int .i64 x0)).setCell ⟨QB, 1, none⟩ (.int .i64 x1)).cell? ⟨QB, 1, none⟩ = some (.int .i64 x1) := by simp [go_sem, y0, y1]
  refine bodyPost_ret (v := .agg #[.int .i64 x0, .int .i64 x1]) (by simp [results, Try.results101, go_sem, y0, y1, z0, z1]) rfl ?_
  obtain ⟨⟨q0, q1, q2⟩, u0, u1, u2⟩ := H2.out
  have nq : QB ≠ p := hQ
  have nq' : p ≠ QB := fun e => hQ e.symm
  refine ⟨by rw [X0.out, X1.out], ⟨⟨?_, ?_, ?_⟩, ?_, ?_, ?_⟩, ?_⟩
  · simp [go_sem, q0, nq, nq']
  · simp [go_sem, q1, nq, nq']
  · simp [go_sem, q2, nq, nq']
  · simp [go_sem, u0]
  · simp [go_sem, u1]
  · simp [go_sem, u2]
  · exact ((K2.out.set QB 0 _ (by omega)).set QB 1 _ (by omega))

/-- Q7 as it is read. -/
def rdQ (l : List Int) (A E : Int) : Q7 × Int × Int := (⟨(tkc l A E 0).1, (tkc l A E 1).1, (tkc l A E 2).1, (tkc l A E 3).1, (tkc l A E 4).1, (tkc l A E 5).1, (tkc l A E 6).1⟩, (tkc l A E 6).2)
theorem rdQ_at (l : List Int) (A E : Int) (h0 : 0 ≤ A) (h1 : A ≤ l.length) : 0 ≤ (rdQ l A E).2.1 ∧ (rdQ l A E).2.1 ≤ l.length := tkc_at l A E h0 h1 6
theorem rdQ_el (p : Nat) (a : Option Addr) (n c : Nat) (l : List Int) (A E : Int) (w : World) (h : RdC w p (.slice a n c) A E) (hl : HoldsB w a n c l) (h0 : 0 ≤ A) (h1 : A ≤ n) (hne : ∀ b o, a = some ⟨b, o, none⟩ → 0 < n → b ≠ p) :
    Calls Try.prog 95 #[.pointer (some ⟨p, 0, none⟩)] w fun e w' => e = .returned (.agg (rdQ l A E).1.cs.toArray) ∧ RdC w' p (.slice a n c) (rdQ l A E).2.1 (rdQ l A E).2.2 ∧ RK p w w' :=
  rdqueue_any p a n c l A E w h hl h0 h1 hne

/-- N5 as it is read. -/
def rdN (l : List Int) (A E : Int) : N5 × Int × Int := (⟨(tkc l A E 0).1, (tkc l A E 1).1, (tkc l A E 2).1, (tkc l A E 3).1, (tkc l A E 4).1⟩, (tkc l A E 4).2)
theorem rdN_at (l : List Int) (A E : Int) (h0 : 0 ≤ A) (h1 : A ≤ l.length) : 0 ≤ (rdN l A E).2.1 ∧ (rdN l A E).2.1 ≤ l.length := tkc_at l A E h0 h1 4
theorem rdN_el (p : Nat) (a : Option Addr) (n c : Nat) (l : List Int) (A E : Int) (w : World) (h : RdC w p (.slice a n c) A E) (hl : HoldsB w a n c l) (h0 : 0 ≤ A) (h1 : A ≤ n) (hne : ∀ b o, a = some ⟨b, o, none⟩ → 0 < n → b ≠ p) :
    Calls Try.prog 97 #[.pointer (some ⟨p, 0, none⟩)] w fun e w' => e = .returned (.agg (rdN l A E).1.cs.toArray) ∧ RdC w' p (.slice a n c) (rdN l A E).2.1 (rdN l A E).2.2 ∧ RK p w w' :=
  rdnode_any p a n c l A E w h hl h0 h1 hne

/-- H2 as it is read. -/
def rdH (l : List Int) (A E : Int) : H2 × Int × Int := (⟨(tkc l A E 0).1, (tkc l A E 1).1⟩, (tkc l A E 1).2)
theorem rdH_at (l : List Int) (A E : Int) (h0 : 0 ≤ A) (h1 : A ≤ l.length) : 0 ≤ (rdH l A E).2.1 ∧ (rdH l A E).2.1 ≤ l.length := tkc_at l A E h0 h1 1
theorem rdH_el (p : Nat) (a : Option Addr) (n c : Nat) (l : List Int) (A E : Int) (w : World) (h : RdC w p (.slice a n c) A E) (hl : HoldsB w a n c l) (h0 : 0 ≤ A) (h1 : A ≤ n) (hne : ∀ b o, a = some ⟨b, o, none⟩ → 0 < n → b ≠ p) :
    Calls Try.prog 101 #[.pointer (some ⟨p, 0, none⟩)] w fun e w' => e = .returned (.agg (rdH l A E).1.cs.toArray) ∧ RdC w' p (.slice a n c) (rdH l A E).2.1 (rdH l A E).2.2 ∧ RK p w w' :=
  rdhunger_any p a n c l A E w h hl h0 h1 hne

theorem elemsQ_mk (p : Nat) (w : World) :
    Calls Try.prog 114 #[.pointer (some ⟨p, 0, none⟩), .func (.func 95) #[.pointer (some ⟨p, 0, none⟩)] #[]] w fun e w' => e = .returned (.func (.func 126) #[] #[.pointer (some ⟨w.heap.size, 0, none⟩), .pointer (some ⟨w.heap.size + 1, 0, none⟩)]) ∧ ∃ t1 t2, (w.alloc (.cells #[.pointer (some ⟨p, 0, none⟩)] t1)).alloc (.cells #[.func (.func 95) #[.pointer (some ⟨p, 0, none⟩)] #[]] t2) = w' := by
  go_enter Try.func114, Try.ntmps114
  go_wp2
  go_ret
  exact ⟨rfl, _, _, rfl⟩

set_option maxRecDepth 100000 in
set_option maxHeartbeats 4000000 in
theorem elemsQ_turns (m : Nat) (hm : 2 ≤ m) (p Bg Bn : Nat) (a : Option Addr) (n c : Nat) (l : List Int) (A E : Int) (w : World) (h0 : 0 ≤ A) (h1 : A ≤ n) (hlen : l.length = n) (hn : n ≤ 9223372036854775807) (hbb : BB l) (hne : ∀ b o, a = some ⟨b, o, none⟩ → 0 < n → b ≠ p) (ng : Bg ≠ p) (nb : Bn ≠ p) :
    TurnsX Fence.wide m Try.prog 126 #[.pointer (some ⟨Bg, 0, none⟩), .pointer (some ⟨Bn, 0, none⟩)] (liC (rdQ l) l A E)
      (fun k W => W.cell? ⟨Bg, 0, none⟩ = some (.pointer (some ⟨p, 0, none⟩)) ∧ W.cell? ⟨Bn, 0, none⟩ = some (.func (.func 95) #[.pointer (some ⟨p, 0, none⟩)] #[]) ∧ RdC W p (.slice a n c) (lsP (rdQ l) l A E k).1 (lsP (rdQ l) l A E k).2 ∧ HoldsB W a n c l)
      (fun k x W B => x = .agg (liV (rdQ l) l A E k).cs.toArray ∧ RdC B p (.slice a n c) (lsP (rdQ l) l A E (k + 1)).1 (lsP (rdQ l) l A E (k + 1)).2 ∧ RK p W B)
      (fun W B => RdC B p (.slice a n c) (liF (rdQ l) l A E).1 (liF (rdQ l) l A E).2 ∧ RK p W B) w := fun lp J JM JF W hW hRd hSt hFi hY hJ0 => by
  have hm1 : 1 ≤ m := by omega
  obtain ⟨cg0, cn0, r0, l0⟩ := hRd 0 W hJ0
  rw [lsP_zero] at r0
  have CB := hid (upT_bd l A E 1024 3 hbb (by omega))
  have AT := hid (upT_at l A E 1024 3 h0 (by omega))
  have AS := hid (fun k => lsS_at (pe := (rdQ l)) (n := n) (E := (upT l A E 1024 3).2.2) (fun A E h0 h1 => by have := rdQ_at l A E h0 (by omega); omega) AT.out.1 (by have := AT.out.2; omega) k)
  have UP := hid (upto_any p a n c l A E 1024 3 W r0 l0 ⟨by omega, by omega⟩ (by omega) hne)
  have NN : Hid (liC (rdQ l) l A E = lsN (rdQ l) (upT l A E 1024 3).2.1 (upT l A E 1024 3).2.2 (upT l A E 1024 3).1.toNat 0) := rfl
  have FF : Hid (liF (rdQ l) l A E = if liC (rdQ l) l A E < (upT l A E 1024 3).1.toNat then lsS (rdQ l) (upT l A E 1024 3).2.1 (upT l A E 1024 3).2.2 (liC (rdQ l) l A E + 1) else lsS (rdQ l) (upT l A E 1024 3).2.1 (upT l A E 1024 3).2.2 (liC (rdQ l) l A E)) := rfl
  have ST := hid hSt
  have FI := hid hFi
  have YY := hid hY
  have RR := hid hRd
  have J0 := hid hJ0
  have PS := hid (fun k => lsP_succ (rdQ l) l A E k)
  have PV : Hid (∀ k, liV (rdQ l) l A E k = lsV (rdQ l) (upT l A E 1024 3).2.1 (upT l A E 1024 3).2.2 k) := fun k => rfl
  have HB := hid l0
  have CN := hid cn0
  clear hSt hFi hY hRd hJ0 cn0 r0 l0
  generalize hli : liC (rdQ l) l A E = N at *
  generalize liF (rdQ l) l A E = FN at *
  generalize hup : upT l A E 1024 3 = U at *
  obtain ⟨cc, A0, E0⟩ := U
  simp only at CB AT AS UP NN FF PS PV
  obtain ⟨C, rfl⟩ : ∃ C : Nat, cc = (C : Int) := ⟨cc.toNat, by have := CB.out.1; omega⟩
  have hC : C ≤ 1024 := by have := CB.out.2; omega
  have NL := hid (lsN_le (rdQ l) A0 E0 C 0)
  have NY := hid (lsN_yes (rdQ l) A0 E0 C 0)
  have NO := hid (lsN_no (rdQ l) A0 E0 C 0)
  simp only [Int.toNat_natCast] at NN FF
  rw [← NN.out] at NL NY NO
  have hNC : N ≤ C := by have := NL.out.2; omega
  clear NN CB AT hup hli NL
  refine callsIn_of_wp Try.func126 rfl trivial ?_ rfl
  simp only [Try.ntmps126, List.size_toArray, List.length_cons, List.length_nil, Nat.reduceAdd, Nat.reduceSub, Array.replicate_succ, Array.replicate_zero, List.push_toArray, List.append_toArray, List.nil_append, List.cons_append]
  gi_wp2
  refine ⟨trivial, ?_⟩
  refine (callsIn_wide.2 UP.out).mono ?_
  rintro e W1 ⟨rfl, r1, k1⟩
  have SW : Hid (∃ W0, J 0 W0 ∧ RK p W0 W1 ∧ RdC W1 p (.slice a n c) A0 E0) := ⟨W, J0.out, k1, r1⟩
  clear UP cg0 r1 k1
  gi_wp2
  gi_loopw [7] (fun v wr => ∃ k : Nat, k ≤ N ∧ v = .int .u64 (k : Int) ∧ Hid (∃ W0, J k W0 ∧ RK p W0 wr ∧ RdC wr p (.slice a n c) (lsS (rdQ l) A0 E0 k).1 (lsS (rdQ l) A0 E0 k).2)) (fun v _ => N + 1 - (intOf v).toNat)
  case atStart => exact ⟨0, by omega, rfl, SW.out⟩
  case round =>
    clear SW
    obtain ⟨k, hk, rfl, hX⟩ := hrel
    obtain ⟨W0, hJ, hK, hR⟩ := hX.out
    obtain ⟨cg, cn, _, hB⟩ := RR.out k W0 hJ
    replace cg := hK.keep cg ng
    replace cn := hK.keep cn nb
    replace hB := hK.holds hB hne
    have hK' := hid hK
    have hJ' := hid hJ
    have hRR := hid hR
    have C1 := hid (rdQ_el p a n c l (lsS (rdQ l) A0 E0 k).1 (lsS (rdQ l) A0 E0 k).2 wr hR hB (AS.out k).1 (AS.out k).2 hne)
    clear hX hJ hK hR hB
    have ka : (0 : Int) ≤ (k : Int) := by omega
    by_cases hlt : k < C
    · have kb : (k : Int) < (C : Int) := by omega
      have tb : decide ((k : Int) < (C : Int)) = true := by simp; omega
      have EV : Hid (lsV (rdQ l) A0 E0 k = ((rdQ l) (lsS (rdQ l) A0 E0 k).1 (lsS (rdQ l) A0 E0 k).2).1) := rfl
      have ES : Hid (lsS (rdQ l) A0 E0 (k + 1) = ((rdQ l) (lsS (rdQ l) A0 E0 k).1 (lsS (rdQ l) A0 E0 k).2).2) := rfl
      generalize ((rdQ l) (lsS (rdQ l) A0 E0 k).1 (lsS (rdQ l) A0 E0 k).2) = Z at *
      obtain ⟨z, A1, E1⟩ := Z
      simp only at C1 EV ES
      gi_wp2
      refine ⟨trivial, ?_⟩
      refine (callsIn_wide.2 C1.out).mono ?_
      rintro e W2 ⟨rfl, r2, k2⟩
      obtain ⟨W3, hW3⟩ : ∃ W3, W2.alloc (.cells z.cs.toArray 25) = W3 := ⟨_, rfl⟩
      have b3 : Below W2.heap.size W2 W3 := by rw [← hW3]; exact (Below.refl _ _).alloc (Nat.le_refl _) _
      have CX := hid (show Blk W3 W2.heap.size 25 z.cs.toArray by rw [← hW3]; exact Blk.alloc _ _ _)
      have HW3 := hid hW3
      have K2 := hid ((hK'.out.trans k2).bel b3)
      have R2 := hid (r2.below b3)
      have cg2 := keepc b3 (k2.keep cg ng)
      have cg2' := k2.keep cg ng
      obtain ⟨⟨q0, q1, q2⟩, qf0, qf1, qf2⟩ := r2.below b3
      have HO1 := hid (all_oneCell_toArray (Q7.one z))
      have HK : Hid (z.cs.length = 7) := rfl
      clear C1 qf0 qf1 qf2 q0 q1 r2 k2 cg cn hW3 b3
      have EZ : Hid ((lsV (rdQ l) A0 E0 k).cs = z.cs) := by unfold Hid; rw [EV.out]
      generalize z.cs = ZC at *
      have hsz : (Try.prog.info? 25).map (·.size) = some ZC.toArray.size := by rw [List.size_toArray, HK.out]; exact sizeQue
      have LD := CX.out.loadAt Try.underlying25 rfl hsz
      by_cases hN : k < N
      · have e0 : E1 = 0 := by have := NY.out k (by omega) hN; rw [ES.out] at this; exact this
        subst e0
        have hMJ := ST.out k (.agg ZC.toArray) W0 W3 hJ'.out hN ⟨by rw [PV.out, EZ.out], by rw [PS.out, ES.out]; exact R2.out, K2.out⟩
        obtain ⟨fn, tmps, assign, body, hy, hR⟩ := YY.out k (.agg ZC.toArray) W3 hMJ hN
        have HR := hid hR
        clear hMJ hR
        gi_wp2_with (first | refine wpListIn_store_new rfl 25 (.tmp 4) (.tmp 10) rfl ZC.toArray rfl rfl 25 _ hsz (by show 7 = ZC.toArray.size; rw [List.size_toArray, HK.out]) HO1.out W3 HW3.out ?_ | refine wpListIn_load_at 25 rfl (.tmp 4) rfl _ _ rfl _ LD ?_)
        refine HR.out.mono ?_
        rintro e W4 ⟨rfl, J4⟩
        have HJ4 := hid J4
        have P4 := hid (RR.out _ W4 J4)
        clear J4
        gi_wp2
        go_roundw
        case rel => exact ⟨k + 1, by omega, by go_num, W4, HJ4.out, RK.refl _ _, by have := P4.out.2.2.1; rw [PS.out] at this; exact this⟩
        case measure => simp [intOf]; omega
      · have ek : N = k := by omega
        subst ek
        have e0 : E1 ≠ 0 := by have := NO.out (by omega); rw [ES.out] at this; exact this
        have te : (E1 != 0) = true := by simpa using e0
        have HF := FI.out W0 W3 hJ'.out ⟨by rw [FF.out, if_pos hlt, ES.out]; exact R2.out, K2.out⟩
        have HF' := hid HF
        clear HF e0
        gi_wp2_with (first | refine wpListIn_store_new rfl 25 (.tmp 4) (.tmp 10) rfl ZC.toArray rfl rfl 25 _ hsz (by show 7 = ZC.toArray.size; rw [List.size_toArray, HK.out]) HO1.out W3 HW3.out ?_ | refine wpListIn_load_at 25 rfl (.tmp 4) rfl _ _ rfl _ LD ?_)
        refine ⟨fun f hf => (by cases hf), ?_⟩
        gi_wp2
        refine bodyPost_ret (results_none rfl _ _ _) rfl ?_
        exact ⟨⟨_, rfl⟩, HF'.out⟩
    · have kc : k = C := by omega
      have kn : N = k := by omega
      subst kn
      have tb : decide ((N : Int) < (C : Int)) = false := by simp; omega
      obtain ⟨W0', hJ2, hK2, hR2⟩ : ∃ W0, J N W0 ∧ RK p W0 wr ∧ RdC wr p (.slice a n c) (lsS (rdQ l) A0 E0 N).1 (lsS (rdQ l) A0 E0 N).2 := ⟨W0, hJ'.out, hK'.out, hRR.out⟩
      have HF := FI.out W0' wr hJ2 ⟨by rw [FF.out, if_neg hlt]; exact hR2, hK2⟩
      have HF' := hid HF
      clear HF hJ2 hK2 hR2 C1
      gi_wp2
      go_end0
      exact ⟨⟨_, rfl⟩, HF'.out⟩

theorem elemsN_mk (p : Nat) (w : World) :
    Calls Try.prog 116 #[.pointer (some ⟨p, 0, none⟩), .func (.func 97) #[.pointer (some ⟨p, 0, none⟩)] #[]] w fun e w' => e = .returned (.func (.func 127) #[] #[.pointer (some ⟨w.heap.size, 0, none⟩), .pointer (some ⟨w.heap.size + 1, 0, none⟩)]) ∧ ∃ t1 t2, (w.alloc (.cells #[.pointer (some ⟨p, 0, none⟩)] t1)).alloc (.cells #[.func (.func 97) #[.pointer (some ⟨p, 0, none⟩)] #[]] t2) = w' := by
  go_enter Try.func116, Try.ntmps116
  go_wp2
  go_ret
  exact ⟨rfl, _, _, rfl⟩

set_option maxRecDepth 100000 in
set_option maxHeartbeats 4000000 in
theorem elemsN_turns (m : Nat) (hm : 2 ≤ m) (p Bg Bn : Nat) (a : Option Addr) (n c : Nat) (l : List Int) (A E : Int) (w : World) (h0 : 0 ≤ A) (h1 : A ≤ n) (hlen : l.length = n) (hn : n ≤ 9223372036854775807) (hbb : BB l) (hne : ∀ b o, a = some ⟨b, o, none⟩ → 0 < n → b ≠ p) (ng : Bg ≠ p) (nb : Bn ≠ p) :
    TurnsX Fence.wide m Try.prog 127 #[.pointer (some ⟨Bg, 0, none⟩), .pointer (some ⟨Bn, 0, none⟩)] (liC (rdN l) l A E)
      (fun k W => W.cell? ⟨Bg, 0, none⟩ = some (.pointer (some ⟨p, 0, none⟩)) ∧ W.cell? ⟨Bn, 0, none⟩ = some (.func (.func 97) #[.pointer (some ⟨p, 0, none⟩)] #[]) ∧ RdC W p (.slice a n c) (lsP (rdN l) l A E k).1 (lsP (rdN l) l A E k).2 ∧ HoldsB W a n c l)
      (fun k x W B => x = .agg (liV (rdN l) l A E k).cs.toArray ∧ RdC B p (.slice a n c) (lsP (rdN l) l A E (k + 1)).1 (lsP (rdN l) l A E (k + 1)).2 ∧ RK p W B)
      (fun W B => RdC B p (.slice a n c) (liF (rdN l) l A E).1 (liF (rdN l) l A E).2 ∧ RK p W B) w := fun lp J JM JF W hW hRd hSt hFi hY hJ0 => by
  have hm1 : 1 ≤ m := by omega
  obtain ⟨cg0, cn0, r0, l0⟩ := hRd 0 W hJ0
  rw [lsP_zero] at r0
  have CB := hid (upT_bd l A E 1024 3 hbb (by omega))
  have AT := hid (upT_at l A E 1024 3 h0 (by omega))
  have AS := hid (fun k => lsS_at (pe := (rdN l)) (n := n) (E := (upT l A E 1024 3).2.2) (fun A E h0 h1 => by have := rdN_at l A E h0 (by omega); omega) AT.out.1 (by have := AT.out.2; omega) k)
  have UP := hid (upto_any p a n c l A E 1024 3 W r0 l0 ⟨by omega, by omega⟩ (by omega) hne)
  have NN : Hid (liC (rdN l) l A E = lsN (rdN l) (upT l A E 1024 3).2.1 (upT l A E 1024 3).2.2 (upT l A E 1024 3).1.toNat 0) := rfl
  have FF : Hid (liF (rdN l) l A E = if liC (rdN l) l A E < (upT l A E 1024 3).1.toNat then lsS (rdN l) (upT l A E 1024 3).2.1 (upT l A E 1024 3).2.2 (liC (rdN l) l A E + 1) else lsS (rdN l) (upT l A E 1024 3).2.1 (upT l A E 1024 3).2.2 (liC (rdN l) l A E)) := rfl
  have ST := hid hSt
  have FI := hid hFi
  have YY := hid hY
  have RR := hid hRd
  have J0 := hid hJ0
  have PS := hid (fun k => lsP_succ (rdN l) l A E k)
  have PV : Hid (∀ k, liV (rdN l) l A E k = lsV (rdN l) (upT l A E 1024 3).2.1 (upT l A E 1024 3).2.2 k) := fun k => rfl
  have HB := hid l0
  have CN := hid cn0
  clear hSt hFi hY hRd hJ0 cn0 r0 l0
  generalize hli : liC (rdN l) l A E = N at *
  generalize liF (rdN l) l A E = FN at *
  generalize hup : upT l A E 1024 3 = U at *
  obtain ⟨cc, A0, E0⟩ := U
  simp only at CB AT AS UP NN FF PS PV
  obtain ⟨C, rfl⟩ : ∃ C : Nat, cc = (C : Int) := ⟨cc.toNat, by have := CB.out.1; omega⟩
  have hC : C ≤ 1024 := by have := CB.out.2; omega
  have NL := hid (lsN_le (rdN l) A0 E0 C 0)
  have NY := hid (lsN_yes (rdN l) A0 E0 C 0)
  have NO := hid (lsN_no (rdN l) A0 E0 C 0)
  simp only [Int.toNat_natCast] at NN FF
  rw [← NN.out] at NL NY NO
  have hNC : N ≤ C := by have := NL.out.2; omega
  clear NN CB AT hup hli NL
  refine callsIn_of_wp Try.func127 rfl trivial ?_ rfl
  simp only [Try.ntmps127, List.size_toArray, List.length_cons, List.length_nil, Nat.reduceAdd, Nat.reduceSub, Array.replicate_succ, Array.replicate_zero, List.push_toArray, List.append_toArray, List.nil_append, List.cons_append]
  gi_wp2
  refine ⟨trivial, ?_⟩
  refine (callsIn_wide.2 UP.out).mono ?_
  rintro e W1 ⟨rfl, r1, k1⟩
  have SW : Hid (∃ W0, J 0 W0 ∧ RK p W0 W1 ∧ RdC W1 p (.slice a n c) A0 E0) := ⟨W, J0.out, k1, r1⟩
  clear UP cg0 r1 k1
  gi_wp2
  gi_loopw [7] (fun v wr => ∃ k : Nat, k ≤ N ∧ v = .int .u64 (k : Int) ∧ Hid (∃ W0, J k W0 ∧ RK p W0 wr ∧ RdC wr p (.slice a n c) (lsS (rdN l) A0 E0 k).1 (lsS (rdN l) A0 E0 k).2)) (fun v _ => N + 1 - (intOf v).toNat)
  case atStart => exact ⟨0, by omega, rfl, SW.out⟩
  case round =>
    clear SW
    obtain ⟨k, hk, rfl, hX⟩ := hrel
    obtain ⟨W0, hJ, hK, hR⟩ := hX.out
    obtain ⟨cg, cn, _, hB⟩ := RR.out k W0 hJ
    replace cg := hK.keep cg ng
    replace cn := hK.keep cn nb
    replace hB := hK.holds hB hne
    have hK' := hid hK
    have hJ' := hid hJ
    have hRR := hid hR
    have C1 := hid (rdN_el p a n c l (lsS (rdN l) A0 E0 k).1 (lsS (rdN l) A0 E0 k).2 wr hR hB (AS.out k).1 (AS.out k).2 hne)
    clear hX hJ hK hR hB
    have ka : (0 : Int) ≤ (k : Int) := by omega
    by_cases hlt : k < C
    · have kb : (k : Int) < (C : Int) := by omega
      have tb : decide ((k : Int) < (C : Int)) = true := by simp; omega
      have EV : Hid (lsV (rdN l) A0 E0 k = ((rdN l) (lsS (rdN l) A0 E0 k).1 (lsS (rdN l) A0 E0 k).2).1) := rfl
      have ES : Hid (lsS (rdN l) A0 E0 (k + 1) = ((rdN l) (lsS (rdN l) A0 E0 k).1 (lsS (rdN l) A0 E0 k).2).2) := rfl
      generalize ((rdN l) (lsS (rdN l) A0 E0 k).1 (lsS (rdN l) A0 E0 k).2) = Z at *
      obtain ⟨z, A1, E1⟩ := Z
      simp only at C1 EV ES
      gi_wp2
      refine ⟨trivial, ?_⟩
      refine (callsIn_wide.2 C1.out).mono ?_
      rintro e W2 ⟨rfl, r2, k2⟩
      obtain ⟨W3, hW3⟩ : ∃ W3, W2.alloc (.cells z.cs.toArray 27) = W3 := ⟨_, rfl⟩
      have b3 : Below W2.heap.size W2 W3 := by rw [← hW3]; exact (Below.refl _ _).alloc (Nat.le_refl _) _
      have CX := hid (show Blk W3 W2.heap.size 27 z.cs.toArray by rw [← hW3]; exact Blk.alloc _ _ _)
      have HW3 := hid hW3
      have K2 := hid ((hK'.out.trans k2).bel b3)
      have R2 := hid (r2.below b3)
      have cg2 := keepc b3 (k2.keep cg ng)
      have cg2' := k2.keep cg ng
      obtain ⟨⟨q0, q1, q2⟩, qf0, qf1, qf2⟩ := r2.below b3
      have HO1 := hid (all_oneCell_toArray (N5.one z))
      have HK : Hid (z.cs.length = 5) := rfl
      clear C1 qf0 qf1 qf2 q0 q1 r2 k2 cg cn hW3 b3
      have EZ : Hid ((lsV (rdN l) A0 E0 k).cs = z.cs) := by unfold Hid; rw [EV.out]
      generalize z.cs = ZC at *
      have hsz : (Try.prog.info? 27).map (·.size) = some ZC.toArray.size := by rw [List.size_toArray, HK.out]; exact sizeNod
      have LD := CX.out.loadAt Try.underlying27 rfl hsz
      by_cases hN : k < N
      · have e0 : E1 = 0 := by have := NY.out k (by omega) hN; rw [ES.out] at this; exact this
        subst e0
        have hMJ := ST.out k (.agg ZC.toArray) W0 W3 hJ'.out hN ⟨by rw [PV.out, EZ.out], by rw [PS.out, ES.out]; exact R2.out, K2.out⟩
        obtain ⟨fn, tmps, assign, body, hy, hR⟩ := YY.out k (.agg ZC.toArray) W3 hMJ hN
        have HR := hid hR
        clear hMJ hR
        gi_wp2_with (first | refine wpListIn_store_new rfl 27 (.tmp 4) (.tmp 10) rfl ZC.toArray rfl rfl 27 _ hsz (by show 5 = ZC.toArray.size; rw [List.size_toArray, HK.out]) HO1.out W3 HW3.out ?_ | refine wpListIn_load_at 27 rfl (.tmp 4) rfl _ _ rfl _ LD ?_)
        refine HR.out.mono ?_
        rintro e W4 ⟨rfl, J4⟩
        have HJ4 := hid J4
        have P4 := hid (RR.out _ W4 J4)
        clear J4
        gi_wp2
        go_roundw
        case rel => exact ⟨k + 1, by omega, by go_num, W4, HJ4.out, RK.refl _ _, by have := P4.out.2.2.1; rw [PS.out] at this; exact this⟩
        case measure => simp [intOf]; omega
      · have ek : N = k := by omega
        subst ek
        have e0 : E1 ≠ 0 := by have := NO.out (by omega); rw [ES.out] at this; exact this
        have te : (E1 != 0) = true := by simpa using e0
        have HF := FI.out W0 W3 hJ'.out ⟨by rw [FF.out, if_pos hlt, ES.out]; exact R2.out, K2.out⟩
        have HF' := hid HF
        clear HF e0
        gi_wp2_with (first | refine wpListIn_store_new rfl 27 (.tmp 4) (.tmp 10) rfl ZC.toArray rfl rfl 27 _ hsz (by show 5 = ZC.toArray.size; rw [List.size_toArray, HK.out]) HO1.out W3 HW3.out ?_ | refine wpListIn_load_at 27 rfl (.tmp 4) rfl _ _ rfl _ LD ?_)
        refine ⟨fun f hf => (by cases hf), ?_⟩
        gi_wp2
        refine bodyPost_ret (results_none rfl _ _ _) rfl ?_
        exact ⟨⟨_, rfl⟩, HF'.out⟩
    · have kc : k = C := by omega
      have kn : N = k := by omega
      subst kn
      have tb : decide ((N : Int) < (C : Int)) = false := by simp; omega
      obtain ⟨W0', hJ2, hK2, hR2⟩ : ∃ W0, J N W0 ∧ RK p W0 wr ∧ RdC wr p (.slice a n c) (lsS (rdN l) A0 E0 N).1 (lsS (rdN l) A0 E0 N).2 := ⟨W0, hJ'.out, hK'.out, hRR.out⟩
      have HF := FI.out W0' wr hJ2 ⟨by rw [FF.out, if_neg hlt]; exact hR2, hK2⟩
      have HF' := hid HF
      clear HF hJ2 hK2 hR2 C1
      gi_wp2
      go_end0
      exact ⟨⟨_, rfl⟩, HF'.out⟩

theorem elemsH_mk (p : Nat) (w : World) :
    Calls Try.prog 118 #[.pointer (some ⟨p, 0, none⟩), .func (.func 101) #[.pointer (some ⟨p, 0, none⟩)] #[]] w fun e w' => e = .returned (.func (.func 129) #[] #[.pointer (some ⟨w.heap.size, 0, none⟩), .pointer (some ⟨w.heap.size + 1, 0, none⟩)]) ∧ ∃ t1 t2, (w.alloc (.cells #[.pointer (some ⟨p, 0, none⟩)] t1)).alloc (.cells #[.func (.func 101) #[.pointer (some ⟨p, 0, none⟩)] #[]] t2) = w' := by
  go_enter Try.func118, Try.ntmps118
  go_wp2
  go_ret
  exact ⟨rfl, _, _, rfl⟩

set_option maxRecDepth 100000 in
set_option maxHeartbeats 4000000 in
theorem elemsH_turns (m : Nat) (hm : 2 ≤ m) (p Bg Bn : Nat) (a : Option Addr) (n c : Nat) (l : List Int) (A E : Int) (w : World) (h0 : 0 ≤ A) (h1 : A ≤ n) (hlen : l.length = n) (hn : n ≤ 9223372036854775807) (hbb : BB l) (hne : ∀ b o, a = some ⟨b, o, none⟩ → 0 < n → b ≠ p) (ng : Bg ≠ p) (nb : Bn ≠ p) :
    TurnsX Fence.wide m Try.prog 129 #[.pointer (some ⟨Bg, 0, none⟩), .pointer (some ⟨Bn, 0, none⟩)] (liC (rdH l) l A E)
      (fun k W => W.cell? ⟨Bg, 0, none⟩ = some (.pointer (some ⟨p, 0, none⟩)) ∧ W.cell? ⟨Bn, 0, none⟩ = some (.func (.func 101) #[.pointer (some ⟨p, 0, none⟩)] #[]) ∧ RdC W p (.slice a n c) (lsP (rdH l) l A E k).1 (lsP (rdH l) l A E k).2 ∧ HoldsB W a n c l)
      (fun k x W B => x = .agg (liV (rdH l) l A E k).cs.toArray ∧ RdC B p (.slice a n c) (lsP (rdH l) l A E (k + 1)).1 (lsP (rdH l) l A E (k + 1)).2 ∧ RK p W B)
      (fun W B => RdC B p (.slice a n c) (liF (rdH l) l A E).1 (liF (rdH l) l A E).2 ∧ RK p W B) w := fun lp J JM JF W hW hRd hSt hFi hY hJ0 => by
  have hm1 : 1 ≤ m := by omega
  obtain ⟨cg0, cn0, r0, l0⟩ := hRd 0 W hJ0
  rw [lsP_zero] at r0
  have CB := hid (upT_bd l A E 1024 3 hbb (by omega))
  have AT := hid (upT_at l A E 1024 3 h0 (by omega))
  have AS := hid (fun k => lsS_at (pe := (rdH l)) (n := n) (E := (upT l A E 1024 3).2.2) (fun A E h0 h1 => by have := rdH_at l A E h0 (by omega); omega) AT.out.1 (by have := AT.out.2; omega) k)
  have UP := hid (upto_any p a n c l A E 1024 3 W r0 l0 ⟨by omega, by omega⟩ (by omega) hne)
  have NN : Hid (liC (rdH l) l A E = lsN (rdH l) (upT l A E 1024 3).2.1 (upT l A E 1024 3).2.2 (upT l A E 1024 3).1.toNat 0) := rfl
  have FF : Hid (liF (rdH l) l A E = if liC (rdH l) l A E < (upT l A E 1024 3).1.toNat then lsS (rdH l) (upT l A E 1024 3).2.1 (upT l A E 1024 3).2.2 (liC (rdH l) l A E + 1) else lsS (rdH l) (upT l A E 1024 3).2.1 (upT l A E 1024 3).2.2 (liC (rdH l) l A E)) := rfl
  have ST := hid hSt
  have FI := hid hFi
  have YY := hid hY
  have RR := hid hRd
  have J0 := hid hJ0
  have PS := hid (fun k => lsP_succ (rdH l) l A E k)
  have PV : Hid (∀ k, liV (rdH l) l A E k = lsV (rdH l) (upT l A E 1024 3).2.1 (upT l A E 1024 3).2.2 k) := fun k => rfl
  have HB := hid l0
  have CN := hid cn0
  clear hSt hFi hY hRd hJ0 cn0 r0 l0
  generalize hli : liC (rdH l) l A E = N at *
  generalize liF (rdH l) l A E = FN at *
  generalize hup : upT l A E 1024 3 = U at *
  obtain ⟨cc, A0, E0⟩ := U
  simp only at CB AT AS UP NN FF PS PV
  obtain ⟨C, rfl⟩ : ∃ C : Nat, cc = (C : Int) := ⟨cc.toNat, by have := CB.out.1; omega⟩
  have hC : C ≤ 1024 := by have := CB.out.2; omega
  have NL := hid (lsN_le (rdH l) A0 E0 C 0)
  have NY := hid (lsN_yes (rdH l) A0 E0 C 0)
  have NO := hid (lsN_no (rdH l) A0 E0 C 0)
  simp only [Int.toNat_natCast] at NN FF
  rw [← NN.out] at NL NY NO
  have hNC : N ≤ C := by have := NL.out.2; omega
  clear NN CB AT hup hli NL
  refine callsIn_of_wp Try.func129 rfl trivial ?_ rfl
  simp only [Try.ntmps129, List.size_toArray, List.length_cons, List.length_nil, Nat.reduceAdd, Nat.reduceSub, Array.replicate_succ, Array.replicate_zero, List.push_toArray, List.append_toArray, List.nil_append, List.cons_append]
  gi_wp2
  refine ⟨trivial, ?_⟩
  refine (callsIn_wide.2 UP.out).mono ?_
  rintro e W1 ⟨rfl, r1, k1⟩
  have SW : Hid (∃ W0, J 0 W0 ∧ RK p W0 W1 ∧ RdC W1 p (.slice a n c) A0 E0) := ⟨W, J0.out, k1, r1⟩
  clear UP cg0 r1 k1
  gi_wp2
  gi_loopw [7] (fun v wr => ∃ k : Nat, k ≤ N ∧ v = .int .u64 (k : Int) ∧ Hid (∃ W0, J k W0 ∧ RK p W0 wr ∧ RdC wr p (.slice a n c) (lsS (rdH l) A0 E0 k).1 (lsS (rdH l) A0 E0 k).2)) (fun v _ => N + 1 - (intOf v).toNat)
  case atStart => exact ⟨0, by omega, rfl, SW.out⟩
  case round =>
    clear SW
    obtain ⟨k, hk, rfl, hX⟩ := hrel
    obtain ⟨W0, hJ, hK, hR⟩ := hX.out
    obtain ⟨cg, cn, _, hB⟩ := RR.out k W0 hJ
    replace cg := hK.keep cg ng
    replace cn := hK.keep cn nb
    replace hB := hK.holds hB hne
    have hK' := hid hK
    have hJ' := hid hJ
    have hRR := hid hR
    have C1 := hid (rdH_el p a n c l (lsS (rdH l) A0 E0 k).1 (lsS (rdH l) A0 E0 k).2 wr hR hB (AS.out k).1 (AS.out k).2 hne)
    clear hX hJ hK hR hB
    have ka : (0 : Int) ≤ (k : Int) := by omega
    by_cases hlt : k < C
    · have kb : (k : Int) < (C : Int) := by omega
      have tb : decide ((k : Int) < (C : Int)) = true := by simp; omega
      have EV : Hid (lsV (rdH l) A0 E0 k = ((rdH l) (lsS (rdH l) A0 E0 k).1 (lsS (rdH l) A0 E0 k).2).1) := rfl
      have ES : Hid (lsS (rdH l) A0 E0 (k + 1) = ((rdH l) (lsS (rdH l) A0 E0 k).1 (lsS (rdH l) A0 E0 k).2).2) := rfl
      generalize ((rdH l) (lsS (rdH l) A0 E0 k).1 (lsS (rdH l) A0 E0 k).2) = Z at *
      obtain ⟨z, A1, E1⟩ := Z
      simp only at C1 EV ES
      gi_wp2
      refine ⟨trivial, ?_⟩
      refine (callsIn_wide.2 C1.out).mono ?_
      rintro e W2 ⟨rfl, r2, k2⟩
      obtain ⟨W3, hW3⟩ : ∃ W3, W2.alloc (.cells z.cs.toArray 94) = W3 := ⟨_, rfl⟩
      have b3 : Below W2.heap.size W2 W3 := by rw [← hW3]; exact (Below.refl _ _).alloc (Nat.le_refl _) _
      have CX := hid (show Blk W3 W2.heap.size 94 z.cs.toArray by rw [← hW3]; exact Blk.alloc _ _ _)
      have HW3 := hid hW3
      have K2 := hid ((hK'.out.trans k2).bel b3)
      have R2 := hid (r2.below b3)
      have cg2 := keepc b3 (k2.keep cg ng)
      have cg2' := k2.keep cg ng
      obtain ⟨⟨q0, q1, q2⟩, qf0, qf1, qf2⟩ := r2.below b3
      have HO1 := hid (all_oneCell_toArray (H2.one z))
      have HK : Hid (z.cs.length = 2) := rfl
      clear C1 qf0 qf1 qf2 q0 q1 r2 k2 cg cn hW3 b3
      have EZ : Hid ((lsV (rdH l) A0 E0 k).cs = z.cs) := by unfold Hid; rw [EV.out]
      generalize z.cs = ZC at *
      have hsz : (Try.prog.info? 94).map (·.size) = some ZC.toArray.size := by rw [List.size_toArray, HK.out]; exact sizeHun
      have LD := CX.out.loadAt Try.underlying94 rfl hsz
      by_cases hN : k < N
      · have e0 : E1 = 0 := by have := NY.out k (by omega) hN; rw [ES.out] at this; exact this
        subst e0
        have hMJ := ST.out k (.agg ZC.toArray) W0 W3 hJ'.out hN ⟨by rw [PV.out, EZ.out], by rw [PS.out, ES.out]; exact R2.out, K2.out⟩
        obtain ⟨fn, tmps, assign, body, hy, hR⟩ := YY.out k (.agg ZC.toArray) W3 hMJ hN
        have HR := hid hR
        clear hMJ hR
        gi_wp2_with (first | refine wpListIn_store_new rfl 94 (.tmp 4) (.tmp 10) rfl ZC.toArray rfl rfl 94 _ hsz (by show 2 = ZC.toArray.size; rw [List.size_toArray, HK.out]) HO1.out W3 HW3.out ?_ | refine wpListIn_load_at 94 rfl (.tmp 4) rfl _ _ rfl _ LD ?_)
        refine HR.out.mono ?_
        rintro e W4 ⟨rfl, J4⟩
        have HJ4 := hid J4
        have P4 := hid (RR.out _ W4 J4)
        clear J4
        gi_wp2
        go_roundw
        case rel => exact ⟨k + 1, by omega, by go_num, W4, HJ4.out, RK.refl _ _, by have := P4.out.2.2.1; rw [PS.out] at this; exact this⟩
        case measure => simp [intOf]; omega
      · have ek : N = k := by omega
        subst ek
        have e0 : E1 ≠ 0 := by have := NO.out (by omega); rw [ES.out] at this; exact this
        have te : (E1 != 0) = true := by simpa using e0
        have HF := FI.out W0 W3 hJ'.out ⟨by rw [FF.out, if_pos hlt, ES.out]; exact R2.out, K2.out⟩
        have HF' := hid HF
        clear HF e0
        gi_wp2_with (first | refine wpListIn_store_new rfl 94 (.tmp 4) (.tmp 10) rfl ZC.toArray rfl rfl 94 _ hsz (by show 2 = ZC.toArray.size; rw [List.size_toArray, HK.out]) HO1.out W3 HW3.out ?_ | refine wpListIn_load_at 94 rfl (.tmp 4) rfl _ _ rfl _ LD ?_)
        refine ⟨fun f hf => (by cases hf), ?_⟩
        gi_wp2
        refine bodyPost_ret (results_none rfl _ _ _) rfl ?_
        exact ⟨⟨_, rfl⟩, HF'.out⟩
    · have kc : k = C := by omega
      have kn : N = k := by omega
      subst kn
      have tb : decide ((N : Int) < (C : Int)) = false := by simp; omega
      obtain ⟨W0', hJ2, hK2, hR2⟩ : ∃ W0, J N W0 ∧ RK p W0 wr ∧ RdC wr p (.slice a n c) (lsS (rdH l) A0 E0 N).1 (lsS (rdH l) A0 E0 N).2 := ⟨W0, hJ'.out, hK'.out, hRR.out⟩
      have HF := FI.out W0' wr hJ2 ⟨by rw [FF.out, if_neg hlt]; exact hR2, hK2⟩
      have HF' := hid HF
      clear HF hJ2 hK2 hR2 C1
      gi_wp2
      go_end0
      exact ⟨⟨_, rfl⟩, HF'.out⟩
end Go.Proofs.Ythkbddnkcljjpaa

namespace Go.Proofs.Ythkbddnkcljjpaa
open Go.RowKit Go.Deep Go.Maps
set_option linter.unusedVariables false
set_option linter.unusedSimpArgs false
attribute [local go_sem] Oper.semAt_some
attribute [local go_sem ↓] appF_eq

theorem addr_add0 (g j : Nat) : (⟨g, 0, none⟩ : Addr).add j = ⟨g, j, none⟩ := by
  rcases j with _ | j <;> simp [Addr.add]
theorem Blk.own {A B : World} {Q t : Nat} {cs : Array Value} {row : Option Nat} (h : Blk A Q t cs) (hg : A.grownBy B row) (hr : ∀ r, row = some r → ∃ o : Obj, A.heap[r]? = some o ∧ o.isCells = false) : Blk B Q t cs := by
  have h' : A.heap[Q]? = some (.cells cs t (0, 0)) := h
  refine (hg.block Q h.lt (fun e => ?_)).trans h
  obtain ⟨o, h1, h2⟩ := hr Q e.symm
  rw [h'] at h1
  cases h1
  simp [Obj.isCells] at h2
theorem wpIn_rangeFunc_z {F : Fence} {n : Nat} {P : Program} {g : Operand} {ps : Array Tmp} {assign body : Code} {Q : Exit → Act → World → Prop} {a : Act} {w : World}
    (hro : F.round = none) (h1 : 1 ≤ n) {gf : Nat} {lb : Array Value} (hg : a.eval g = .func (.func gf) #[] lb) (hFg : F.fn gf) (eg : ∀ args w, (callFunc gf args).run P w = .ok (.enter gf args) w)
    {N : Nat} {Rd : Nat → World → Prop} {Stp : Nat → Value → World → World → Prop} {Fin : World → World → Prop} (hT : TurnsX F (n - 1) P gf lb N Rd Stp Fin w) (hps : ps.size = 1)
    (I : Nat → World → Prop) (IM : Nat → Value → World → Prop) (IA : Nat → Value → Nat → World → Prop) (IF : World → Prop) (hI : OwnFrom w.heap.size I) (hIM : ∀ x, OwnFrom w.heap.size (fun k => IM k x)) (hIA : ∀ x b, OwnFrom w.heap.size (fun k => IA k x b)) (hIF : OwnFrom w.heap.size (fun (_ : Nat) => IF)) (h0 : I 0 w) (hRd : ∀ k A, I k A → Rd k A)
    (hStp : ∀ k x A B, I k A → k < N → Stp k x A B → IM k x B) (hFin : ∀ A B, I N A → Fin A B → IF B)
    (hKeep : ∀ k x A B (i : Nat) (o : Obj), I k A → Stp k x A B → w.heap.size ≤ i → A.heap[i]? = some o → o.isCells = false → B.heap[i]? = some o)
    (hKeepF : ∀ A B (i : Nat) (o : Obj), I N A → Fin A B → w.heap.size ≤ i → A.heap[i]? = some o → o.isCells = false → B.heap[i]? = some o)
    (a₁ : Nat → Value → Nat → Act)
    (hassign : ∀ (l k : Nat) (x : Value) (W : World) (K : Act → World → Prop), IM k x W → k < N → (∀ b W1, IA k x b W1 → KeepsFrom w.heap.size W W1 → K (a₁ k x b) W1) → assign.wpIn (F.inRound l) (n - 1 - 1) P (Exit.then K (fun _ _ _ => False)) { tmps := (ps.zip #[x]).foldl (fun t (p, v) => t.setIfInBounds p v) a.tmps, defers := [] } W)
    (hbody : ∀ (l k : Nat) (x : Value) (b : Nat) (W : World), IA k x b W → k < N → body.wpIn (F.inRound l) (n - 1 - 1) P (fun e _ W' => e = .normal ∧ KeepsFrom w.heap.size W W' ∧ I (k + 1) W') (a₁ k x b) W)
    (hdone : ∀ (D : Nat) (W : World), w.heap.size ≤ D → IF W → W.heap[D]? = some (.deferred (some [])) → Q .normal { a with defers := { target := .collected D, args := #[] } :: a.defers } W) :
    (Code.rangeFunc g ps assign body).wpIn F n P Q a w :=
  wpIn_rangeFunc_y hro h1 hg hFg eg hT hps I IM (fun k x a W => ∃ b, a = a₁ k x b ∧ IA k x b W) IF hI hIM (fun x a k A B row hs hgr hr => by obtain ⟨b, e, h⟩ := hs; exact ⟨b, e, hIA x b k A B row h hgr hr⟩) hIF h0 hRd hStp hFin hKeep hKeepF
    (fun l k x W K hi hk hK => hassign l k x W K hi hk (fun b W1 h1 h2 => hK _ _ ⟨b, rfl, h1⟩ h2))
    (fun l k x a1 W hi hk => by obtain ⟨b, rfl, h⟩ := hi; exact hbody l k x b W h hk) hdone

set_option maxRecDepth 100000 in
theorem infQ : (Try.prog.info? 25).map (fun i => (i.zero, i.size, i.bytes)) = some (some (.agg #[.int .i64 0, .int .i64 0, .int .i64 0, .int .i64 0, .int .i64 0, .int .i64 0, .int .i64 0]), 7, 56) := by kernel_rfl
/-- What stands while the things of a list are gathered: k of them. -/
structure GaQ (ib S p : Nat) (a : Option Addr) (n c : Nat) (l : List Int) (A E : Int) (w : World) (k : Nat) (pl : Int × Int) (W : World) : Prop where
  row : ∃ v, W.cell? ⟨ib, 0, none⟩ = some v ∧ W.frozen? ⟨ib, 0, none⟩ = false ∧ OwnE 25 7 Q7.cs S W v k (liT (rdQ l) l A E k)
  cg : W.cell? ⟨ib + 1, 0, none⟩ = some (.pointer (some ⟨p, 0, none⟩))
  cn : W.cell? ⟨ib + 2, 0, none⟩ = some (.func (.func 95) #[.pointer (some ⟨p, 0, none⟩)] #[])
  rd : RdC W p (.slice a n c) pl.1 pl.2
  rk : RK p w W
  sz : S ≤ W.heap.size
theorem GaQ.own {ib S p k : Nat} {a : Option Addr} {n c : Nat} {l : List Int} {X E : Int} {pl : Int × Int} {w A B : World} {row : Option Nat} (h : GaQ ib S p a n c l X E w k pl A) (hg : A.grownBy B row) (hr : ∀ r, row = some r → S ≤ r ∧ ∃ o : Obj, A.heap[r]? = some o ∧ o.isCells = false) (hS : w.heap.size ≤ S) : GaQ ib S p a n c l X E w k pl B := by
  have hr' : ∀ r, row = some r → ∃ o : Obj, A.heap[r]? = some o ∧ o.isCells = false := fun r e => (hr r e).2
  obtain ⟨v, h1, h2, h3⟩ := h.row
  exact ⟨⟨v, cell_kept h1 hg hr', (frozen_kept h1 hg hr').trans h2, h3.own hg hr'⟩, cell_kept h.cg hg hr', cell_kept h.cn hg hr', h.rd.own hg hr', h.rk.own hg (fun r e => (hr r e).1) hS, Nat.le_trans h.sz hg.size⟩
theorem GaQ.turn {ib S p k : Nat} {a : Option Addr} {n c : Nat} {l : List Int} {X E : Int} {pl pl' : Int × Int} {w A B : World} (h : GaQ ib S p a n c l X E w k pl A) (T : RK p A B) (G : RdC B p (.slice a n c) pl'.1 pl'.2) (h1 : p < ib) (hi : ib ≤ S) : GaQ ib S p a n c l X E w k pl' B := by
  obtain ⟨v, h3, h4, h5⟩ := h.row
  exact ⟨⟨v, T.keep h3 (by show ib ≠ p; omega), (T.froz h3 (by show ib ≠ p; omega)).trans h4, h5.rk T (by omega)⟩, T.keep h.cg (by show ib + 1 ≠ p; omega), T.keep h.cn (by show ib + 2 ≠ p; omega), G, h.rk.trans T, Nat.le_trans h.sz T.size⟩

set_option maxRecDepth 100000 in
set_option maxHeartbeats 4000000 in
theorem listQ_in (p : Nat) (a : Option Addr) (n c : Nat) (l : List Int) (A E : Int) (w : World) (h : RdC w p (.slice a n c) A E) (hl : HoldsB w a n c l) (h0 : 0 ≤ A) (h1 : A ≤ n) (hne : ∀ b o, a = some ⟨b, o, none⟩ → 0 < n → b ≠ p) :
    CallsIn Fence.wide 5 Try.prog 94 #[.pointer (some ⟨p, 0, none⟩), .func (.func 95) #[.pointer (some ⟨p, 0, none⟩)] #[]] w fun e w' => ∃ v, e = .returned v ∧ OwnE 25 7 Q7.cs w.heap.size w' v (liC (rdQ l) l A E) (liL (rdQ l) l A E) ∧ RdC w' p (.slice a n c) (liF (rdQ l) l A E).1 (liF (rdQ l) l A E).2 ∧ RK p w w' := by
  obtain ⟨i0, hi, hz0, hz1, hz2⟩ := info_parts infQ
  have HR := hid h
  have HL := hid hl
  have plt := h.lt
  have hlen := hl.1
  have hnm := hl.2.1
  have hbb := hl.2.2.2.2.1
  have LC := (liC_le (rdQ l) l A E hbb).2
  clear h hl
  refine callsIn_of_wp_marks Try.func94 rfl trivial ?_ rfl
  simp only [Try.ntmps94, List.size_toArray, List.length_cons, List.length_nil, Nat.reduceAdd, Nat.reduceSub, Array.replicate_succ, Array.replicate_zero, List.push_toArray, List.append_toArray, List.nil_append, List.cons_append]
  gi_wp2_with fail
  refine ⟨trivial, ?_⟩
  refine (callsIn_wide.2 (elemsQ_mk p _)).mono ?_
  rintro e w' ⟨rfl, t1, t2, rfl⟩
  gi_wp2_with fail
  have hsz : (((w.alloc (.cells #[.slice none 0 0] 49)).alloc (.cells #[.pointer (some ⟨p, 0, none⟩)] t1)).alloc (.cells #[.func (.func 95) #[.pointer (some ⟨p, 0, none⟩)] #[]] t2)).heap.size = w.heap.size + 3 := by simp
  have hB0 : Below w.heap.size w (((w.alloc (.cells #[.slice none 0 0] 49)).alloc (.cells #[.pointer (some ⟨p, 0, none⟩)] t1)).alloc (.cells #[.func (.func 95) #[.pointer (some ⟨p, 0, none⟩)] #[]] t2)) := (by repeat (first | exact Below.refl _ _ | assumption | refine Below.alloc ?_ (by simp <;> omega) _ | refine Below.setCell ?_ (by simp <;> omega) _ | refine Below.drew ?_ | refine below_drewN ?_ _))
  have e0 : (((w.alloc (.cells #[.slice none 0 0] 49)).alloc (.cells #[.pointer (some ⟨p, 0, none⟩)] t1)).alloc (.cells #[.func (.func 95) #[.pointer (some ⟨p, 0, none⟩)] #[]] t2)).cell? ⟨w.heap.size, 0, none⟩ = some (.slice none 0 0) := by simp [go_sem]
  have g0 : (((w.alloc (.cells #[.slice none 0 0] 49)).alloc (.cells #[.pointer (some ⟨p, 0, none⟩)] t1)).alloc (.cells #[.func (.func 95) #[.pointer (some ⟨p, 0, none⟩)] #[]] t2)).frozen? ⟨w.heap.size, 0, none⟩ = false := by simp [go_sem]
  have e1 : (((w.alloc (.cells #[.slice none 0 0] 49)).alloc (.cells #[.pointer (some ⟨p, 0, none⟩)] t1)).alloc (.cells #[.func (.func 95) #[.pointer (some ⟨p, 0, none⟩)] #[]] t2)).cell? ⟨w.heap.size + 1, 0, none⟩ = some (.pointer (some ⟨p, 0, none⟩)) := by simp [go_sem]
  have e2 : (((w.alloc (.cells #[.slice none 0 0] 49)).alloc (.cells #[.pointer (some ⟨p, 0, none⟩)] t1)).alloc (.cells #[.func (.func 95) #[.pointer (some ⟨p, 0, none⟩)] #[]] t2)).cell? ⟨w.heap.size + 2, 0, none⟩ = some (.func (.func 95) #[.pointer (some ⟨p, 0, none⟩)] #[]) := by simp [go_sem]
  generalize hW0 : (((w.alloc (.cells #[.slice none 0 0] 49)).alloc (.cells #[.pointer (some ⟨p, 0, none⟩)] t1)).alloc (.cells #[.func (.func 95) #[.pointer (some ⟨p, 0, none⟩)] #[]] t2)) = W0 at *
  have A0 : GaQ w.heap.size (w.heap.size + 3) p a n c l A E w 0 (lsP (rdQ l) l A E 0) W0 := ⟨⟨_, e0, g0, OwnE.nil _ _ _ _ _⟩, e1, e2, HR.out.below hB0, WK.of_below hB0, by omega⟩
  refine wpIn_rangeFunc_z rfl (by omega) (gf := 126) (lb := #[.pointer (some ⟨w.heap.size + 1, 0, none⟩), .pointer (some ⟨w.heap.size + 1 + 1, 0, none⟩)]) rfl trivial (enters_of Try.func126 (by kernel_rfl) rfl)
    (elemsQ_turns 4 (by omega) p (w.heap.size + 1) (w.heap.size + 1 + 1) a n c l A E W0 h0 h1 hlen hnm hbb hne (by omega) (by omega)) rfl
    (fun k W => GaQ w.heap.size (w.heap.size + 3) p a n c l A E w k (lsP (rdQ l) l A E k) W) (fun k x W => x = .agg (liV (rdQ l) l A E k).cs.toArray ∧ GaQ w.heap.size (w.heap.size + 3) p a n c l A E w k (lsP (rdQ l) l A E (k + 1)) W) (fun k x b W => Blk W b 25 (liV (rdQ l) l A E k).cs.toArray ∧ GaQ w.heap.size (w.heap.size + 3) p a n c l A E w k (lsP (rdQ l) l A E (k + 1)) W) (fun W => GaQ w.heap.size (w.heap.size + 3) p a n c l A E w (liC (rdQ l) l A E) (liF (rdQ l) l A E) W)
    (fun k A B row hs hgr hr => hs.own hgr (fun r' e => by have := hr r' e; rw [hsz] at this; exact this) (by omega))
    (fun x k A B row hs hgr hr => ⟨hs.1, hs.2.own hgr (fun r' e => by have := hr r' e; rw [hsz] at this; exact this) (by omega)⟩)
    (fun x b k A B row hs hgr hr => ⟨hs.1.own hgr (fun r' e => (hr r' e).2), hs.2.own hgr (fun r' e => by have := hr r' e; rw [hsz] at this; exact this) (by omega)⟩)
    (fun k A B row hs hgr hr => hs.own hgr (fun r' e => by have := hr r' e; rw [hsz] at this; exact this) (by omega))
    A0 (fun k A hs => ⟨hs.cg, hs.cn, hs.rd, hs.rk.holds HL.out hne⟩)
    (fun k x A B hs hk hst => ⟨hst.1, hs.turn hst.2.2 hst.2.1 plt (by omega)⟩)
    (fun A B hs hst => hs.turn hst.2 hst.1 plt (by omega))
    (fun k x A B i o hs hst hi ho hc => (hst.2.2.block i (Array.getElem?_eq_some_iff.1 ho).1 (by omega) (by intro e; cases e)).trans ho)
    (fun A B i o hs hst hi ho hc => (hst.2.block i (Array.getElem?_eq_some_iff.1 ho).1 (by omega) (by intro e; cases e)).trans ho)
    ?a1 ?assign ?body ?done
  case assign =>
    intro lp k x W K hI hk hK
    obtain ⟨hx, hG⟩ := hI
    have HX := hid hx
    have HO1 := hid (all_oneCell_toArray (Q7.one (liV (rdQ l) l A E k)))
    have HKK : Hid ((liV (rdQ l) l A E k).cs.length = 7) := rfl
    have GR : Hid (∀ (t : Nat) (cs : Array Value), GaQ w.heap.size (w.heap.size + 3) p a n c l A E w k (lsP (rdQ l) l A E (k + 1)) (W.alloc (.cells cs t))) := fun t cs => by
      obtain ⟨⟨v, u1, u2, u3⟩, u4, u5, u6, u7, u8⟩ := hG
      have b := (Below.refl W.heap.size W).alloc (Nat.le_refl _) (.cells cs t)
      exact ⟨⟨v, keepc b u1, keepf b u1 u2, OwnE.rk u3 (WK.of_below b : RK p W _) (by omega)⟩, keepc b u4, keepc b u5, u6.below b, u7.bel b, Nat.le_trans u8 b.size⟩
    have HKE := hid hK
    clear hx hG hK
    obtain ⟨W3, hW3⟩ : ∃ W3, W.alloc (.cells (liV (rdQ l) l A E k).cs.toArray 25) = W3 := ⟨_, rfl⟩
    have CX := hid (show Blk W3 W.heap.size 25 (liV (rdQ l) l A E k).cs.toArray by rw [← hW3]; exact Blk.alloc _ _ _)
    have HW3 := hid hW3
    have G3 : Hid (GaQ w.heap.size (w.heap.size + 3) p a n c l A E w k (lsP (rdQ l) l A E (k + 1)) W3) := by unfold Hid; rw [← hW3]; exact GR.out _ _
    have KO : Hid (KeepsOthers W W3) := by
      unfold Hid; rw [← hW3]
      exact ⟨by simp, fun k o hk _ => (Below.heap_alloc W _ _ (Array.getElem?_eq_some_iff.1 hk).1).trans hk⟩
    clear hW3 GR
    have hszz : (Try.prog.info? 25).map (·.size) = some (liV (rdQ l) l A E k).cs.toArray.size := by rw [List.size_toArray, HKK.out]; exact sizeQue
    generalize (liV (rdQ l) l A E k).cs = ZC at *
    gi_wp2_with (refine wpListIn_store_new rfl 25 (.tmp 6) (.tmp 10) rfl ZC.toArray rfl (by show x = _; exact HX.out) 25 _ hszz (by show 7 = ZC.toArray.size; rw [List.size_toArray, HKK.out]) HO1.out W3 HW3.out ?_)
    have HE := HKE.out W.heap.size W3 ⟨CX.out, G3.out⟩ (KO.out.from _)
    clear HKE HX HO1 HKK CX HW3 G3 KO hszz
    generalize W.heap.size = B6 at *
    exact HE
  case body =>
    intro lp k x b6 W hI hk
    obtain ⟨hbk, ⟨v, u1, u2, hrow⟩, uc, un, ur, uk, us⟩ := hI
    have LV := hid (liT_succ (rdQ l) l A E k)
    have LN := hid (liT_len (rdQ l) l A E k)
    generalize liV (rdQ l) l A E k = xv at *
    obtain ⟨f0, f1, f2, f3, f4, f5, f6⟩ := xv
    have LD := Blk.loadAt hbk Try.underlying25 rfl sizeQue
    replace LD : (Instr.loadAt 25 (.pointer (some ⟨b6, 0, none⟩))).run Try.prog W = .ok (.agg #[.int .i64 f0, .int .i64 f1, .int .i64 f2, .int .i64 f3, .int .i64 f4, .int .i64 f5, .int .i64 f6]) W := LD
    obtain ⟨v', w1, hrun, hown', hgr, hnil, hplace⟩ := run_append_own_at (P := Try.prog) (W.alloc (.cells #[.int .i64 f0, .int .i64 f1, .int .i64 f2, .int .i64 f3, .int .i64 f4, .int .i64 f5, .int .i64 f6] 25)) (w.heap.size + 3) 49 49 25 i0 (.agg #[.int .i64 0, .int .i64 0, .int .i64 0, .int .i64 0, .int .i64 0, .int .i64 0, .int .i64 0]) 7 56 Try.underlying49 hi hz0 hz1 hz2 rfl (by decide) v k _ (hrow.2.alloc _) ⟨W.heap.size, 0, none⟩ 1 1 [.int .i64 f0, .int .i64 f1, .int .i64 f2, .int .i64 f3, .int .i64 f4, .int .i64 f5, .int .i64 f6] rfl (fun j u hj => by have := (Blk.alloc W #[.int .i64 f0, .int .i64 f1, .int .i64 f2, .int .i64 f3, .int .i64 f4, .int .i64 f5, .int .i64 f6] (25)).range j u hj; rw [Nat.zero_add] at this; rw [addr_add0]; exact this) (by simp [Value.oneCell']) (by unfold maxLen; omega) (by omega) (by simp; omega)
    obtain ⟨g', cap', rfl⟩ := ownsRow_succ hown'
    rw [appF_eq] at hrun
    have hrowlt : ∀ g, v.ownBlock = some g → w.heap.size + 3 ≤ g := fun g hg => (hrow.lt g hg).1
    have hge : w.heap.size + 3 ≤ g' := (hown'.lt g' rfl).1
    have hblk : ∀ b, b < w.heap.size + 3 → w1.heap[b]? = W.heap[b]? := fun b hb => by
      rw [hgr.block b (by simp; omega) (fun e => by have := hrowlt _ e.symm; omega)]
      exact Below.heap_alloc _ _ _ (by show b < W.heap.size; omega)
    have x1 : w1.cell? ⟨w.heap.size, 0, none⟩ = some v := (World.cell?_of_block (w := W) (hblk _ (by simp))).trans u1
    have x2 : w1.frozen? ⟨w.heap.size, 0, none⟩ = false := (World.frozen?_of_block (w := W) (hblk _ (by simp))).trans u2
    have hKO : Hid (KeepsOthers W w1) := by
      have h1 : KeepsOthers W (W.alloc (.cells #[.int .i64 f0, .int .i64 f1, .int .i64 f2, .int .i64 f3, .int .i64 f4, .int .i64 f5, .int .i64 f6] 25)) := ⟨by simp, fun k o hk _ => (Below.heap_alloc W _ _ (Array.getElem?_eq_some_iff.1 hk).1).trans hk⟩
      exact h1.trans (keepsOthers_grown hgr (ownsRow_cells (hrow.2.alloc _)))
    have hOb : Hid (∀ b, b < w.heap.size + 3 → b ≠ w.heap.size → (w1.setCell ⟨w.heap.size, 0, none⟩ (.slice (some ⟨g', 0, none⟩) (k + 1) cap')).heap[b]? = W.heap[b]?) := fun b hb hne => (Below.heap_setCell _ _ _ _ hne).trans (hblk b hb)
    have HO : Hid (OwnE 25 7 Q7.cs (w.heap.size + 3) (w1.setCell ⟨w.heap.size, 0, none⟩ (.slice (some ⟨g', 0, none⟩) (k + 1) cap')) (.slice (some ⟨g', 0, none⟩) (k + 1) cap') (k + 1) (liT (rdQ l) l A E (k + 1))) := by
      refine ⟨by rw [liT_len], ?_⟩
      have h1 : (liT (rdQ l) l A E (k + 1)).flatMap Q7.cs = (liT (rdQ l) l A E k).flatMap Q7.cs ++ [.int .i64 f0, .int .i64 f1, .int .i64 f2, .int .i64 f3, .int .i64 f4, .int .i64 f5, .int .i64 f6] := by rw [LV.out, List.flatMap_append]; rfl
      rw [h1]
      exact hown'.kept (grownBy_setCell' w1 w.heap.size _) (.inr (by simp [Value.ownBlock]; omega))
    have HG1 : Hid (GaQ w.heap.size (w.heap.size + 3) p a n c l A E w (k + 1) (lsP (rdQ l) l A E (k + 1)) (w1.setCell ⟨w.heap.size, 0, none⟩ (.slice (some ⟨g', 0, none⟩) (k + 1) cap'))) := by
      have hs1 : W.heap.size ≤ w1.heap.size := hKO.out.size
      refine ⟨⟨_, World.cell?_setCell_same' _ _ _ (by rw [x1]; rfl), by rw [World.frozen?_setCell]; exact x2, HO.out⟩, ?_, ?_, ?_, ?_, ?_⟩
      · exact (World.cell?_of_block (w := W) (hOb.out _ (by simp) (by simp))).trans uc
      · exact (World.cell?_of_block (w := W) (hOb.out _ (by simp) (by simp))).trans un
      · exact ur.same (hOb.out _ (by omega) (by omega))
      · refine ⟨?_, ?_, ?_, ?_, fun b hb h1 h2 => (hOb.out b (by omega) (by omega)).trans (uk.block b hb h1 h2), fun _ e => by cases e⟩
        · exact hgr.os.trans uk.os
        · exact hgr.tape.trans uk.tape
        · exact hgr.output.trans uk.output
        · have := uk.size; simp [World.setCell]; omega
      · simp [World.setCell]; omega
    have e1a := keepc ((Below.refl _ W).alloc (Nat.le_refl _) (.cells #[.int .i64 f0, .int .i64 f1, .int .i64 f2, .int .i64 f3, .int .i64 f4, .int .i64 f5, .int .i64 f6] 25)) u1
    clear hgr hown' hrow hnil hblk hrowlt hplace uc un ur uk us hOb HO hbk
    gi_wp2_with (refine wpListIn_load_at 25 rfl (.tmp 6) rfl _ _ rfl _ LD ?_)
    exact ⟨(hKO.out.trans (KeepsOthers.setCell _ _ _)).from _, HG1.out⟩
  case done =>
    rintro D W hD hI hK
    obtain ⟨⟨v, u1, u2, hrow⟩, uc, un, ur, uk, us⟩ := hI
    gi_wp2
    refine ⟨by simp, .inl ⟨_, _, rfl, run_takeDeferred hK, ?_⟩⟩
    have hgO := grownBy_putObj' W D (.deferred none)
    have hrO : ∀ r, some D = some r → ∃ o : Obj, W.heap[r]? = some o ∧ o.isCells = false := fun r e => by cases e; exact ⟨_, hK, rfl⟩
    refine ⟨_, results_tmp rfl _ _ _, v, rfl, ?_, ur.own hgO hrO, uk.own (S := w.heap.size + 3) hgO (fun r e => by cases e; omega) (by omega)⟩
    have := (hrow.own hgO hrO).weaken (b' := w.heap.size) (by omega)
    rwa [liT_all] at this

theorem listQ_any (p : Nat) (a : Option Addr) (n c : Nat) (l : List Int) (A E : Int) (w : World) (h : RdC w p (.slice a n c) A E) (hl : HoldsB w a n c l) (h0 : 0 ≤ A) (h1 : A ≤ n) (hne : ∀ b o, a = some ⟨b, o, none⟩ → 0 < n → b ≠ p) :
    Calls Try.prog 94 #[.pointer (some ⟨p, 0, none⟩), .func (.func 95) #[.pointer (some ⟨p, 0, none⟩)] #[]] w fun e w' => ∃ v, e = .returned v ∧ OwnE 25 7 Q7.cs w.heap.size w' v (liC (rdQ l) l A E) (liL (rdQ l) l A E) ∧ RdC w' p (.slice a n c) (liF (rdQ l) l A E).1 (liF (rdQ l) l A E).2 ∧ RK p w w' := callsIn_wide.1 (listQ_in p a n c l A E w h hl h0 h1 hne)

set_option maxRecDepth 100000 in
theorem infN : (Try.prog.info? 27).map (fun i => (i.zero, i.size, i.bytes)) = some (some (.agg #[.int .i64 0, .int .i64 0, .int .i64 0, .int .i64 0, .int .i64 0]), 5, 40) := by kernel_rfl
/-- What stands while the things of a list are gathered: k of them. -/
structure GaN (ib S p : Nat) (a : Option Addr) (n c : Nat) (l : List Int) (A E : Int) (w : World) (k : Nat) (pl : Int × Int) (W : World) : Prop where
  row : ∃ v, W.cell? ⟨ib, 0, none⟩ = some v ∧ W.frozen? ⟨ib, 0, none⟩ = false ∧ OwnE 27 5 N5.cs S W v k (liT (rdN l) l A E k)
  cg : W.cell? ⟨ib + 1, 0, none⟩ = some (.pointer (some ⟨p, 0, none⟩))
  cn : W.cell? ⟨ib + 2, 0, none⟩ = some (.func (.func 97) #[.pointer (some ⟨p, 0, none⟩)] #[])
  rd : RdC W p (.slice a n c) pl.1 pl.2
  rk : RK p w W
  sz : S ≤ W.heap.size
theorem GaN.own {ib S p k : Nat} {a : Option Addr} {n c : Nat} {l : List Int} {X E : Int} {pl : Int × Int} {w A B : World} {row : Option Nat} (h : GaN ib S p a n c l X E w k pl A) (hg : A.grownBy B row) (hr : ∀ r, row = some r → S ≤ r ∧ ∃ o : Obj, A.heap[r]? = some o ∧ o.isCells = false) (hS : w.heap.size ≤ S) : GaN ib S p a n c l X E w k pl B := by
  have hr' : ∀ r, row = some r → ∃ o : Obj, A.heap[r]? = some o ∧ o.isCells = false := fun r e => (hr r e).2
  obtain ⟨v, h1, h2, h3⟩ := h.row
  exact ⟨⟨v, cell_kept h1 hg hr', (frozen_kept h1 hg hr').trans h2, h3.own hg hr'⟩, cell_kept h.cg hg hr', cell_kept h.cn hg hr', h.rd.own hg hr', h.rk.own hg (fun r e => (hr r e).1) hS, Nat.le_trans h.sz hg.size⟩
theorem GaN.turn {ib S p k : Nat} {a : Option Addr} {n c : Nat} {l : List Int} {X E : Int} {pl pl' : Int × Int} {w A B : World} (h : GaN ib S p a n c l X E w k pl A) (T : RK p A B) (G : RdC B p (.slice a n c) pl'.1 pl'.2) (h1 : p < ib) (hi : ib ≤ S) : GaN ib S p a n c l X E w k pl' B := by
  obtain ⟨v, h3, h4, h5⟩ := h.row
  exact ⟨⟨v, T.keep h3 (by show ib ≠ p; omega), (T.froz h3 (by show ib ≠ p; omega)).trans h4, h5.rk T (by omega)⟩, T.keep h.cg (by show ib + 1 ≠ p; omega), T.keep h.cn (by show ib + 2 ≠ p; omega), G, h.rk.trans T, Nat.le_trans h.sz T.size⟩

set_option maxRecDepth 100000 in
set_option maxHeartbeats 4000000 in
theorem listN_in (p : Nat) (a : Option Addr) (n c : Nat) (l : List Int) (A E : Int) (w : World) (h : RdC w p (.slice a n c) A E) (hl : HoldsB w a n c l) (h0 : 0 ≤ A) (h1 : A ≤ n) (hne : ∀ b o, a = some ⟨b, o, none⟩ → 0 < n → b ≠ p) :
    CallsIn Fence.wide 5 Try.prog 96 #[.pointer (some ⟨p, 0, none⟩), .func (.func 97) #[.pointer (some ⟨p, 0, none⟩)] #[]] w fun e w' => ∃ v, e = .returned v ∧ OwnE 27 5 N5.cs w.heap.size w' v (liC (rdN l) l A E) (liL (rdN l) l A E) ∧ RdC w' p (.slice a n c) (liF (rdN l) l A E).1 (liF (rdN l) l A E).2 ∧ RK p w w' := by
  obtain ⟨i0, hi, hz0, hz1, hz2⟩ := info_parts infN
  have HR := hid h
  have HL := hid hl
  have plt := h.lt
  have hlen := hl.1
  have hnm := hl.2.1
  have hbb := hl.2.2.2.2.1
  have LC := (liC_le (rdN l) l A E hbb).2
  clear h hl
  refine callsIn_of_wp_marks Try.func96 rfl trivial ?_ rfl
  simp only [Try.ntmps96, List.size_toArray, List.length_cons, List.length_nil, Nat.reduceAdd, Nat.reduceSub, Array.replicate_succ, Array.replicate_zero, List.push_toArray, List.append_toArray, List.nil_append, List.cons_append]
  gi_wp2_with fail
  refine ⟨trivial, ?_⟩
  refine (callsIn_wide.2 (elemsN_mk p _)).mono ?_
  rintro e w' ⟨rfl, t1, t2, rfl⟩
  gi_wp2_with fail
  have hsz : (((w.alloc (.cells #[.slice none 0 0] 50)).alloc (.cells #[.pointer (some ⟨p, 0, none⟩)] t1)).alloc (.cells #[.func (.func 97) #[.pointer (some ⟨p, 0, none⟩)] #[]] t2)).heap.size = w.heap.size + 3 := by simp
  have hB0 : Below w.heap.size w (((w.alloc (.cells #[.slice none 0 0] 50)).alloc (.cells #[.pointer (some ⟨p, 0, none⟩)] t1)).alloc (.cells #[.func (.func 97) #[.pointer (some ⟨p, 0, none⟩)] #[]] t2)) := (by repeat (first | exact Below.refl _ _ | assumption | refine Below.alloc ?_ (by simp <;> omega) _ | refine Below.setCell ?_ (by simp <;> omega) _ | refine Below.drew ?_ | refine below_drewN ?_ _))
  have e0 : (((w.alloc (.cells #[.slice none 0 0] 50)).alloc (.cells #[.pointer (some ⟨p, 0, none⟩)] t1)).alloc (.cells #[.func (.func 97) #[.pointer (some ⟨p, 0, none⟩)] #[]] t2)).cell? ⟨w.heap.size, 0, none⟩ = some (.slice none 0 0) := by simp [go_sem]
  have g0 : (((w.alloc (.cells #[.slice none 0 0] 50)).alloc (.cells #[.pointer (some ⟨p, 0, none⟩)] t1)).alloc (.cells #[.func (.func 97) #[.pointer (some ⟨p, 0, none⟩)] #[]] t2)).frozen? ⟨w.heap.size, 0, none⟩ = false := by simp [go_sem]
  have e1 : (((w.alloc (.cells #[.slice none 0 0] 50)).alloc (.cells #[.pointer (some ⟨p, 0, none⟩)] t1)).alloc (.cells #[.func (.func 97) #[.pointer (some ⟨p, 0, none⟩)] #[]] t2)).cell? ⟨w.heap.size + 1, 0, none⟩ = some (.pointer (some ⟨p, 0, none⟩)) := by simp [go_sem]
  have e2 : (((w.alloc (.cells #[.slice none 0 0] 50)).alloc (.cells #[.pointer (some ⟨p, 0, none⟩)] t1)).alloc (.cells #[.func (.func 97) #[.pointer (some ⟨p, 0, none⟩)] #[]] t2)).cell? ⟨w.heap.size + 2, 0, none⟩ = some (.func (.func 97) #[.pointer (some ⟨p, 0, none⟩)] #[]) := by simp [go_sem]
  generalize hW0 : (((w.alloc (.cells #[.slice none 0 0] 50)).alloc (.cells #[.pointer (some ⟨p, 0, none⟩)] t1)).alloc (.cells #[.func (.func 97) #[.pointer (some ⟨p, 0, none⟩)] #[]] t2)) = W0 at *
  have A0 : GaN w.heap.size (w.heap.size + 3) p a n c l A E w 0 (lsP (rdN l) l A E 0) W0 := ⟨⟨_, e0, g0, OwnE.nil _ _ _ _ _⟩, e1, e2, HR.out.below hB0, WK.of_below hB0, by omega⟩
  refine wpIn_rangeFunc_z rfl (by omega) (gf := 127) (lb := #[.pointer (some ⟨w.heap.size + 1, 0, none⟩), .pointer (some ⟨w.heap.size + 1 + 1, 0, none⟩)]) rfl trivial (enters_of Try.func127 (by kernel_rfl) rfl)
    (elemsN_turns 4 (by omega) p (w.heap.size + 1) (w.heap.size + 1 + 1) a n c l A E W0 h0 h1 hlen hnm hbb hne (by omega) (by omega)) rfl
    (fun k W => GaN w.heap.size (w.heap.size + 3) p a n c l A E w k (lsP (rdN l) l A E k) W) (fun k x W => x = .agg (liV (rdN l) l A E k).cs.toArray ∧ GaN w.heap.size (w.heap.size + 3) p a n c l A E w k (lsP (rdN l) l A E (k + 1)) W) (fun k x b W => Blk W b 27 (liV (rdN l) l A E k).cs.toArray ∧ GaN w.heap.size (w.heap.size + 3) p a n c l A E w k (lsP (rdN l) l A E (k + 1)) W) (fun W => GaN w.heap.size (w.heap.size + 3) p a n c l A E w (liC (rdN l) l A E) (liF (rdN l) l A E) W)
    (fun k A B row hs hgr hr => hs.own hgr (fun r' e => by have := hr r' e; rw [hsz] at this; exact this) (by omega))
    (fun x k A B row hs hgr hr => ⟨hs.1, hs.2.own hgr (fun r' e => by have := hr r' e; rw [hsz] at this; exact this) (by omega)⟩)
    (fun x b k A B row hs hgr hr => ⟨hs.1.own hgr (fun r' e => (hr r' e).2), hs.2.own hgr (fun r' e => by have := hr r' e; rw [hsz] at this; exact this) (by omega)⟩)
    (fun k A B row hs hgr hr => hs.own hgr (fun r' e => by have := hr r' e; rw [hsz] at this; exact this) (by omega))
    A0 (fun k A hs => ⟨hs.cg, hs.cn, hs.rd, hs.rk.holds HL.out hne⟩)
    (fun k x A B hs hk hst => ⟨hst.1, hs.turn hst.2.2 hst.2.1 plt (by omega)⟩)
    (fun A B hs hst => hs.turn hst.2 hst.1 plt (by omega))
    (fun k x A B i o hs hst hi ho hc => (hst.2.2.block i (Array.getElem?_eq_some_iff.1 ho).1 (by omega) (by intro e; cases e)).trans ho)
    (fun A B i o hs hst hi ho hc => (hst.2.block i (Array.getElem?_eq_some_iff.1 ho).1 (by omega) (by intro e; cases e)).trans ho)
    ?a1 ?assign ?body ?done
  case assign =>
    intro lp k x W K hI hk hK
    obtain ⟨hx, hG⟩ := hI
    have HX := hid hx
    have HO1 := hid (all_oneCell_toArray (N5.one (liV (rdN l) l A E k)))
    have HKK : Hid ((liV (rdN l) l A E k).cs.length = 5) := rfl
    have GR : Hid (∀ (t : Nat) (cs : Array Value), GaN w.heap.size (w.heap.size + 3) p a n c l A E w k (lsP (rdN l) l A E (k + 1)) (W.alloc (.cells cs t))) := fun t cs => by
      obtain ⟨⟨v, u1, u2, u3⟩, u4, u5, u6, u7, u8⟩ := hG
      have b := (Below.refl W.heap.size W).alloc (Nat.le_refl _) (.cells cs t)
      exact ⟨⟨v, keepc b u1, keepf b u1 u2, OwnE.rk u3 (WK.of_below b : RK p W _) (by omega)⟩, keepc b u4, keepc b u5, u6.below b, u7.bel b, Nat.le_trans u8 b.size⟩
    have HKE := hid hK
    clear hx hG hK
    obtain ⟨W3, hW3⟩ : ∃ W3, W.alloc (.cells (liV (rdN l) l A E k).cs.toArray 27) = W3 := ⟨_, rfl⟩
    have CX := hid (show Blk W3 W.heap.size 27 (liV (rdN l) l A E k).cs.toArray by rw [← hW3]; exact Blk.alloc _ _ _)
    have HW3 := hid hW3
    have G3 : Hid (GaN w.heap.size (w.heap.size + 3) p a n c l A E w k (lsP (rdN l) l A E (k + 1)) W3) := by unfold Hid; rw [← hW3]; exact GR.out _ _
    have KO : Hid (KeepsOthers W W3) := by
      unfold Hid; rw [← hW3]
      exact ⟨by simp, fun k o hk _ => (Below.heap_alloc W _ _ (Array.getElem?_eq_some_iff.1 hk).1).trans hk⟩
    clear hW3 GR
    have hszz : (Try.prog.info? 27).map (·.size) = some (liV (rdN l) l A E k).cs.toArray.size := by rw [List.size_toArray, HKK.out]; exact sizeNod
    generalize (liV (rdN l) l A E k).cs = ZC at *
    gi_wp2_with (refine wpListIn_store_new rfl 27 (.tmp 6) (.tmp 10) rfl ZC.toArray rfl (by show x = _; exact HX.out) 27 _ hszz (by show 5 = ZC.toArray.size; rw [List.size_toArray, HKK.out]) HO1.out W3 HW3.out ?_)
    have HE := HKE.out W.heap.size W3 ⟨CX.out, G3.out⟩ (KO.out.from _)
    clear HKE HX HO1 HKK CX HW3 G3 KO hszz
    generalize W.heap.size = B6 at *
    exact HE
  case body =>
    intro lp k x b6 W hI hk
    obtain ⟨hbk, ⟨v, u1, u2, hrow⟩, uc, un, ur, uk, us⟩ := hI
    have LV := hid (liT_succ (rdN l) l A E k)
    have LN := hid (liT_len (rdN l) l A E k)
    generalize liV (rdN l) l A E k = xv at *
    obtain ⟨f0, f1, f2, f3, f4⟩ := xv
    have LD := Blk.loadAt hbk Try.underlying27 rfl sizeNod
    replace LD : (Instr.loadAt 27 (.pointer (some ⟨b6, 0, none⟩))).run Try.prog W = .ok (.agg #[.int .i64 f0, .int .i64 f1, .int .i64 f2, .int .i64 f3, .int .i64 f4]) W := LD
    obtain ⟨v', w1, hrun, hown', hgr, hnil, hplace⟩ := run_append_own_at (P := Try.prog) (W.alloc (.cells #[.int .i64 f0, .int .i64 f1, .int .i64 f2, .int .i64 f3, .int .i64 f4] 27)) (w.heap.size + 3) 50 50 27 i0 (.agg #[.int .i64 0, .int .i64 0, .int .i64 0, .int .i64 0, .int .i64 0]) 5 40 Try.underlying50 hi hz0 hz1 hz2 rfl (by decide) v k _ (hrow.2.alloc _) ⟨W.heap.size, 0, none⟩ 1 1 [.int .i64 f0, .int .i64 f1, .int .i64 f2, .int .i64 f3, .int .i64 f4] rfl (fun j u hj => by have := (Blk.alloc W #[.int .i64 f0, .int .i64 f1, .int .i64 f2, .int .i64 f3, .int .i64 f4] (27)).range j u hj; rw [Nat.zero_add] at this; rw [addr_add0]; exact this) (by simp [Value.oneCell']) (by unfold maxLen; omega) (by omega) (by simp; omega)
    obtain ⟨g', cap', rfl⟩ := ownsRow_succ hown'
    rw [appF_eq] at hrun
    have hrowlt : ∀ g, v.ownBlock = some g → w.heap.size + 3 ≤ g := fun g hg => (hrow.lt g hg).1
    have hge : w.heap.size + 3 ≤ g' := (hown'.lt g' rfl).1
    have hblk : ∀ b, b < w.heap.size + 3 → w1.heap[b]? = W.heap[b]? := fun b hb => by
      rw [hgr.block b (by simp; omega) (fun e => by have := hrowlt _ e.symm; omega)]
      exact Below.heap_alloc _ _ _ (by show b < W.heap.size; omega)
    have x1 : w1.cell? ⟨w.heap.size, 0, none⟩ = some v := (World.cell?_of_block (w := W) (hblk _ (by simp))).trans u1
    have x2 : w1.frozen? ⟨w.heap.size, 0, none⟩ = false := (World.frozen?_of_block (w := W) (hblk _ (by simp))).trans u2
    have hKO : Hid (KeepsOthers W w1) := by
      have h1 : KeepsOthers W (W.alloc (.cells #[.int .i64 f0, .int .i64 f1, .int .i64 f2, .int .i64 f3, .int .i64 f4] 27)) := ⟨by simp, fun k o hk _ => (Below.heap_alloc W _ _ (Array.getElem?_eq_some_iff.1 hk).1).trans hk⟩
      exact h1.trans (keepsOthers_grown hgr (ownsRow_cells (hrow.2.alloc _)))
    have hOb : Hid (∀ b, b < w.heap.size + 3 → b ≠ w.heap.size → (w1.setCell ⟨w.heap.size, 0, none⟩ (.slice (some ⟨g', 0, none⟩) (k + 1) cap')).heap[b]? = W.heap[b]?) := fun b hb hne => (Below.heap_setCell _ _ _ _ hne).trans (hblk b hb)
    have HO : Hid (OwnE 27 5 N5.cs (w.heap.size + 3) (w1.setCell ⟨w.heap.size, 0, none⟩ (.slice (some ⟨g', 0, none⟩) (k + 1) cap')) (.slice (some ⟨g', 0, none⟩) (k + 1) cap') (k + 1) (liT (rdN l) l A E (k + 1))) := by
      refine ⟨by rw [liT_len], ?_⟩
      have h1 : (liT (rdN l) l A E (k + 1)).flatMap N5.cs = (liT (rdN l) l A E k).flatMap N5.cs ++ [.int .i64 f0, .int .i64 f1, .int .i64 f2, .int .i64 f3, .int .i64 f4] := by rw [LV.out, List.flatMap_append]; rfl
      rw [h1]
      exact hown'.kept (grownBy_setCell' w1 w.heap.size _) (.inr (by simp [Value.ownBlock]; omega))
    have HG1 : Hid (GaN w.heap.size (w.heap.size + 3) p a n c l A E w (k + 1) (lsP (rdN l) l A E (k + 1)) (w1.setCell ⟨w.heap.size, 0, none⟩ (.slice (some ⟨g', 0, none⟩) (k + 1) cap'))) := by
      have hs1 : W.heap.size ≤ w1.heap.size := hKO.out.size
      refine ⟨⟨_, World.cell?_setCell_same' _ _ _ (by rw [x1]; rfl), by rw [World.frozen?_setCell]; exact x2, HO.out⟩, ?_, ?_, ?_, ?_, ?_⟩
      · exact (World.cell?_of_block (w := W) (hOb.out _ (by simp) (by simp))).trans uc
      · exact (World.cell?_of_block (w := W) (hOb.out _ (by simp) (by simp))).trans un
      · exact ur.same (hOb.out _ (by omega) (by omega))
      · refine ⟨?_, ?_, ?_, ?_, fun b hb h1 h2 => (hOb.out b (by omega) (by omega)).trans (uk.block b hb h1 h2), fun _ e => by cases e⟩
        · exact hgr.os.trans uk.os
        · exact hgr.tape.trans uk.tape
        · exact hgr.output.trans uk.output
        · have := uk.size; simp [World.setCell]; omega
      · simp [World.setCell]; omega
    have e1a := keepc ((Below.refl _ W).alloc (Nat.le_refl _) (.cells #[.int .i64 f0, .int .i64 f1, .int .i64 f2, .int .i64 f3, .int .i64 f4] 27)) u1
    clear hgr hown' hrow hnil hblk hrowlt hplace uc un ur uk us hOb HO hbk
    gi_wp2_with (refine wpListIn_load_at 27 rfl (.tmp 6) rfl _ _ rfl _ LD ?_)
    exact ⟨(hKO.out.trans (KeepsOthers.setCell _ _ _)).from _, HG1.out⟩
  case done =>
    rintro D W hD hI hK
    obtain ⟨⟨v, u1, u2, hrow⟩, uc, un, ur, uk, us⟩ := hI
    gi_wp2
    refine ⟨by simp, .inl ⟨_, _, rfl, run_takeDeferred hK, ?_⟩⟩
    have hgO := grownBy_putObj' W D (.deferred none)
    have hrO : ∀ r, some D = some r → ∃ o : Obj, W.heap[r]? = some o ∧ o.isCells = false := fun r e => by cases e; exact ⟨_, hK, rfl⟩
    refine ⟨_, results_tmp rfl _ _ _, v, rfl, ?_, ur.own hgO hrO, uk.own (S := w.heap.size + 3) hgO (fun r e => by cases e; omega) (by omega)⟩
    have := (hrow.own hgO hrO).weaken (b' := w.heap.size) (by omega)
    rwa [liT_all] at this

theorem listN_any (p : Nat) (a : Option Addr) (n c : Nat) (l : List Int) (A E : Int) (w : World) (h : RdC w p (.slice a n c) A E) (hl : HoldsB w a n c l) (h0 : 0 ≤ A) (h1 : A ≤ n) (hne : ∀ b o, a = some ⟨b, o, none⟩ → 0 < n → b ≠ p) :
    Calls Try.prog 96 #[.pointer (some ⟨p, 0, none⟩), .func (.func 97) #[.pointer (some ⟨p, 0, none⟩)] #[]] w fun e w' => ∃ v, e = .returned v ∧ OwnE 27 5 N5.cs w.heap.size w' v (liC (rdN l) l A E) (liL (rdN l) l A E) ∧ RdC w' p (.slice a n c) (liF (rdN l) l A E).1 (liF (rdN l) l A E).2 ∧ RK p w w' := callsIn_wide.1 (listN_in p a n c l A E w h hl h0 h1 hne)

set_option maxRecDepth 100000 in
theorem infH : (Try.prog.info? 94).map (fun i => (i.zero, i.size, i.bytes)) = some (some (.agg #[.int .i64 0, .int .i64 0]), 2, 16) := by kernel_rfl
/-- What stands while the things of a list are gathered: k of them. -/
structure GaH (ib S p : Nat) (a : Option Addr) (n c : Nat) (l : List Int) (A E : Int) (w : World) (k : Nat) (pl : Int × Int) (W : World) : Prop where
  row : ∃ v, W.cell? ⟨ib, 0, none⟩ = some v ∧ W.frozen? ⟨ib, 0, none⟩ = false ∧ OwnE 94 2 H2.cs S W v k (liT (rdH l) l A E k)
  cg : W.cell? ⟨ib + 1, 0, none⟩ = some (.pointer (some ⟨p, 0, none⟩))
  cn : W.cell? ⟨ib + 2, 0, none⟩ = some (.func (.func 101) #[.pointer (some ⟨p, 0, none⟩)] #[])
  rd : RdC W p (.slice a n c) pl.1 pl.2
  rk : RK p w W
  sz : S ≤ W.heap.size
theorem GaH.own {ib S p k : Nat} {a : Option Addr} {n c : Nat} {l : List Int} {X E : Int} {pl : Int × Int} {w A B : World} {row : Option Nat} (h : GaH ib S p a n c l X E w k pl A) (hg : A.grownBy B row) (hr : ∀ r, row = some r → S ≤ r ∧ ∃ o : Obj, A.heap[r]? = some o ∧ o.isCells = false) (hS : w.heap.size ≤ S) : GaH ib S p a n c l X E w k pl B := by
  have hr' : ∀ r, row = some r → ∃ o : Obj, A.heap[r]? = some o ∧ o.isCells = false := fun r e => (hr r e).2
  obtain ⟨v, h1, h2, h3⟩ := h.row
  exact ⟨⟨v, cell_kept h1 hg hr', (frozen_kept h1 hg hr').trans h2, h3.own hg hr'⟩, cell_kept h.cg hg hr', cell_kept h.cn hg hr', h.rd.own hg hr', h.rk.own hg (fun r e => (hr r e).1) hS, Nat.le_trans h.sz hg.size⟩
theorem GaH.turn {ib S p k : Nat} {a : Option Addr} {n c : Nat} {l : List Int} {X E : Int} {pl pl' : Int × Int} {w A B : World} (h : GaH ib S p a n c l X E w k pl A) (T : RK p A B) (G : RdC B p (.slice a n c) pl'.1 pl'.2) (h1 : p < ib) (hi : ib ≤ S) : GaH ib S p a n c l X E w k pl' B := by
  obtain ⟨v, h3, h4, h5⟩ := h.row
  exact ⟨⟨v, T.keep h3 (by show ib ≠ p; omega), (T.froz h3 (by show ib ≠ p; omega)).trans h4, h5.rk T (by omega)⟩, T.keep h.cg (by show ib + 1 ≠ p; omega), T.keep h.cn (by show ib + 2 ≠ p; omega), G, h.rk.trans T, Nat.le_trans h.sz T.size⟩

set_option maxRecDepth 100000 in
set_option maxHeartbeats 4000000 in
theorem listH_in (p : Nat) (a : Option Addr) (n c : Nat) (l : List Int) (A E : Int) (w : World) (h : RdC w p (.slice a n c) A E) (hl : HoldsB w a n c l) (h0 : 0 ≤ A) (h1 : A ≤ n) (hne : ∀ b o, a = some ⟨b, o, none⟩ → 0 < n → b ≠ p) :
    CallsIn Fence.wide 5 Try.prog 100 #[.pointer (some ⟨p, 0, none⟩), .func (.func 101) #[.pointer (some ⟨p, 0, none⟩)] #[]] w fun e w' => ∃ v, e = .returned v ∧ OwnE 94 2 H2.cs w.heap.size w' v (liC (rdH l) l A E) (liL (rdH l) l A E) ∧ RdC w' p (.slice a n c) (liF (rdH l) l A E).1 (liF (rdH l) l A E).2 ∧ RK p w w' := by
  obtain ⟨i0, hi, hz0, hz1, hz2⟩ := info_parts infH
  have HR := hid h
  have HL := hid hl
  have plt := h.lt
  have hlen := hl.1
  have hnm := hl.2.1
  have hbb := hl.2.2.2.2.1
  have LC := (liC_le (rdH l) l A E hbb).2
  clear h hl
  refine callsIn_of_wp_marks Try.func100 rfl trivial ?_ rfl
  simp only [Try.ntmps100, List.size_toArray, List.length_cons, List.length_nil, Nat.reduceAdd, Nat.reduceSub, Array.replicate_succ, Array.replicate_zero, List.push_toArray, List.append_toArray, List.nil_append, List.cons_append]
  gi_wp2_with fail
  refine ⟨trivial, ?_⟩
  refine (callsIn_wide.2 (elemsH_mk p _)).mono ?_
  rintro e w' ⟨rfl, t1, t2, rfl⟩
  gi_wp2_with fail
  have hsz : (((w.alloc (.cells #[.slice none 0 0] 52)).alloc (.cells #[.pointer (some ⟨p, 0, none⟩)] t1)).alloc (.cells #[.func (.func 101) #[.pointer (some ⟨p, 0, none⟩)] #[]] t2)).heap.size = w.heap.size + 3 := by simp
  have hB0 : Below w.heap.size w (((w.alloc (.cells #[.slice none 0 0] 52)).alloc (.cells #[.pointer (some ⟨p, 0, none⟩)] t1)).alloc (.cells #[.func (.func 101) #[.pointer (some ⟨p, 0, none⟩)] #[]] t2)) := (by repeat (first | exact Below.refl _ _ | assumption | refine Below.alloc ?_ (by simp <;> omega) _ | refine Below.setCell ?_ (by simp <;> omega) _ | refine Below.drew ?_ | refine below_drewN ?_ _))
  have e0 : (((w.alloc (.cells #[.slice none 0 0] 52)).alloc (.cells #[.pointer (some ⟨p, 0, none⟩)] t1)).alloc (.cells #[.func (.func 101) #[.pointer (some ⟨p, 0, none⟩)] #[]] t2)).cell? ⟨w.heap.size, 0, none⟩ = some (.slice none 0 0) := by simp [go_sem]
  have g0 : (((w.alloc (.cells #[.slice none 0 0] 52)).alloc (.cells #[.pointer (some ⟨p, 0, none⟩)] t1)).alloc (.cells #[.func (.func 101) #[.pointer (some ⟨p, 0, none⟩)] #[]] t2)).frozen? ⟨w.heap.size, 0, none⟩ = false := by simp [go_sem]
  have e1 : (((w.alloc (.cells #[.slice none 0 0] 52)).alloc (.cells #[.pointer (some ⟨p, 0, none⟩)] t1)).alloc (.cells #[.func (.func 101) #[.pointer (some ⟨p, 0, none⟩)] #[]] t2)).cell? ⟨w.heap.size + 1, 0, none⟩ = some (.pointer (some ⟨p, 0, none⟩)) := by simp [go_sem]
  have e2 : (((w.alloc (.cells #[.slice none 0 0] 52)).alloc (.cells #[.pointer (some ⟨p, 0, none⟩)] t1)).alloc (.cells #[.func (.func 101) #[.pointer (some ⟨p, 0, none⟩)] #[]] t2)).cell? ⟨w.heap.size + 2, 0, none⟩ = some (.func (.func 101) #[.pointer (some ⟨p, 0, none⟩)] #[]) := by simp [go_sem]
  generalize hW0 : (((w.alloc (.cells #[.slice none 0 0] 52)).alloc (.cells #[.pointer (some ⟨p, 0, none⟩)] t1)).alloc (.cells #[.func (.func 101) #[.pointer (some ⟨p, 0, none⟩)] #[]] t2)) = W0 at *
  have A0 : GaH w.heap.size (w.heap.size + 3) p a n c l A E w 0 (lsP (rdH l) l A E 0) W0 := ⟨⟨_, e0, g0, OwnE.nil _ _ _ _ _⟩, e1, e2, HR.out.below hB0, WK.of_below hB0, by omega⟩
  refine wpIn_rangeFunc_z rfl (by omega) (gf := 129) (lb := #[.pointer (some ⟨w.heap.size + 1, 0, none⟩), .pointer (some ⟨w.heap.size + 1 + 1, 0, none⟩)]) rfl trivial (enters_of Try.func129 (by kernel_rfl) rfl)
    (elemsH_turns 4 (by omega) p (w.heap.size + 1) (w.heap.size + 1 + 1) a n c l A E W0 h0 h1 hlen hnm hbb hne (by omega) (by omega)) rfl
    (fun k W => GaH w.heap.size (w.heap.size + 3) p a n c l A E w k (lsP (rdH l) l A E k) W) (fun k x W => x = .agg (liV (rdH l) l A E k).cs.toArray ∧ GaH w.heap.size (w.heap.size + 3) p a n c l A E w k (lsP (rdH l) l A E (k + 1)) W) (fun k x b W => Blk W b 94 (liV (rdH l) l A E k).cs.toArray ∧ GaH w.heap.size (w.heap.size + 3) p a n c l A E w k (lsP (rdH l) l A E (k + 1)) W) (fun W => GaH w.heap.size (w.heap.size + 3) p a n c l A E w (liC (rdH l) l A E) (liF (rdH l) l A E) W)
    (fun k A B row hs hgr hr => hs.own hgr (fun r' e => by have := hr r' e; rw [hsz] at this; exact this) (by omega))
    (fun x k A B row hs hgr hr => ⟨hs.1, hs.2.own hgr (fun r' e => by have := hr r' e; rw [hsz] at this; exact this) (by omega)⟩)
    (fun x b k A B row hs hgr hr => ⟨hs.1.own hgr (fun r' e => (hr r' e).2), hs.2.own hgr (fun r' e => by have := hr r' e; rw [hsz] at this; exact this) (by omega)⟩)
    (fun k A B row hs hgr hr => hs.own hgr (fun r' e => by have := hr r' e; rw [hsz] at this; exact this) (by omega))
    A0 (fun k A hs => ⟨hs.cg, hs.cn, hs.rd, hs.rk.holds HL.out hne⟩)
    (fun k x A B hs hk hst => ⟨hst.1, hs.turn hst.2.2 hst.2.1 plt (by omega)⟩)
    (fun A B hs hst => hs.turn hst.2 hst.1 plt (by omega))
    (fun k x A B i o hs hst hi ho hc => (hst.2.2.block i (Array.getElem?_eq_some_iff.1 ho).1 (by omega) (by intro e; cases e)).trans ho)
    (fun A B i o hs hst hi ho hc => (hst.2.block i (Array.getElem?_eq_some_iff.1 ho).1 (by omega) (by intro e; cases e)).trans ho)
    ?a1 ?assign ?body ?done
  case assign =>
    intro lp k x W K hI hk hK
    obtain ⟨hx, hG⟩ := hI
    have HX := hid hx
    have HO1 := hid (all_oneCell_toArray (H2.one (liV (rdH l) l A E k)))
    have HKK : Hid ((liV (rdH l) l A E k).cs.length = 2) := rfl
    have GR : Hid (∀ (t : Nat) (cs : Array Value), GaH w.heap.size (w.heap.size + 3) p a n c l A E w k (lsP (rdH l) l A E (k + 1)) (W.alloc (.cells cs t))) := fun t cs => by
      obtain ⟨⟨v, u1, u2, u3⟩, u4, u5, u6, u7, u8⟩ := hG
      have b := (Below.refl W.heap.size W).alloc (Nat.le_refl _) (.cells cs t)
      exact ⟨⟨v, keepc b u1, keepf b u1 u2, OwnE.rk u3 (WK.of_below b : RK p W _) (by omega)⟩, keepc b u4, keepc b u5, u6.below b, u7.bel b, Nat.le_trans u8 b.size⟩
    have HKE := hid hK
    clear hx hG hK
    obtain ⟨W3, hW3⟩ : ∃ W3, W.alloc (.cells (liV (rdH l) l A E k).cs.toArray 94) = W3 := ⟨_, rfl⟩
    have CX := hid (show Blk W3 W.heap.size 94 (liV (rdH l) l A E k).cs.toArray by rw [← hW3]; exact Blk.alloc _ _ _)
    have HW3 := hid hW3
    have G3 : Hid (GaH w.heap.size (w.heap.size + 3) p a n c l A E w k (lsP (rdH l) l A E (k + 1)) W3) := by unfold Hid; rw [← hW3]; exact GR.out _ _
    have KO : Hid (KeepsOthers W W3) := by
      unfold Hid; rw [← hW3]
      exact ⟨by simp, fun k o hk _ => (Below.heap_alloc W _ _ (Array.getElem?_eq_some_iff.1 hk).1).trans hk⟩
    clear hW3 GR
    have hszz : (Try.prog.info? 94).map (·.size) = some (liV (rdH l) l A E k).cs.toArray.size := by rw [List.size_toArray, HKK.out]; exact sizeHun
    generalize (liV (rdH l) l A E k).cs = ZC at *
    gi_wp2_with (refine wpListIn_store_new rfl 94 (.tmp 6) (.tmp 10) rfl ZC.toArray rfl (by show x = _; exact HX.out) 94 _ hszz (by show 2 = ZC.toArray.size; rw [List.size_toArray, HKK.out]) HO1.out W3 HW3.out ?_)
    have HE := HKE.out W.heap.size W3 ⟨CX.out, G3.out⟩ (KO.out.from _)
    clear HKE HX HO1 HKK CX HW3 G3 KO hszz
    generalize W.heap.size = B6 at *
    exact HE
  case body =>
    intro lp k x b6 W hI hk
    obtain ⟨hbk, ⟨v, u1, u2, hrow⟩, uc, un, ur, uk, us⟩ := hI
    have LV := hid (liT_succ (rdH l) l A E k)
    have LN := hid (liT_len (rdH l) l A E k)
    generalize liV (rdH l) l A E k = xv at *
    obtain ⟨f0, f1⟩ := xv
    have LD := Blk.loadAt hbk Try.underlying94 rfl sizeHun
    replace LD : (Instr.loadAt 94 (.pointer (some ⟨b6, 0, none⟩))).run Try.prog W = .ok (.agg #[.int .i64 f0, .int .i64 f1]) W := LD
    obtain ⟨v', w1, hrun, hown', hgr, hnil, hplace⟩ := run_append_own_at (P := Try.prog) (W.alloc (.cells #[.int .i64 f0, .int .i64 f1] 94)) (w.heap.size + 3) 52 52 94 i0 (.agg #[.int .i64 0, .int .i64 0]) 2 16 Try.underlying52 hi hz0 hz1 hz2 rfl (by decide) v k _ (hrow.2.alloc _) ⟨W.heap.size, 0, none⟩ 1 1 [.int .i64 f0, .int .i64 f1] rfl (fun j u hj => by have := (Blk.alloc W #[.int .i64 f0, .int .i64 f1] (94)).range j u hj; rw [Nat.zero_add] at this; rw [addr_add0]; exact this) (by simp [Value.oneCell']) (by unfold maxLen; omega) (by omega) (by simp; omega)
    obtain ⟨g', cap', rfl⟩ := ownsRow_succ hown'
    rw [appF_eq] at hrun
    have hrowlt : ∀ g, v.ownBlock = some g → w.heap.size + 3 ≤ g := fun g hg => (hrow.lt g hg).1
    have hge : w.heap.size + 3 ≤ g' := (hown'.lt g' rfl).1
    have hblk : ∀ b, b < w.heap.size + 3 → w1.heap[b]? = W.heap[b]? := fun b hb => by
      rw [hgr.block b (by simp; omega) (fun e => by have := hrowlt _ e.symm; omega)]
      exact Below.heap_alloc _ _ _ (by show b < W.heap.size; omega)
    have x1 : w1.cell? ⟨w.heap.size, 0, none⟩ = some v := (World.cell?_of_block (w := W) (hblk _ (by simp))).trans u1
    have x2 : w1.frozen? ⟨w.heap.size, 0, none⟩ = false := (World.frozen?_of_block (w := W) (hblk _ (by simp))).trans u2
    have hKO : Hid (KeepsOthers W w1) := by
      have h1 : KeepsOthers W (W.alloc (.cells #[.int .i64 f0, .int .i64 f1] 94)) := ⟨by simp, fun k o hk _ => (Below.heap_alloc W _ _ (Array.getElem?_eq_some_iff.1 hk).1).trans hk⟩
      exact h1.trans (keepsOthers_grown hgr (ownsRow_cells (hrow.2.alloc _)))
    have hOb : Hid (∀ b, b < w.heap.size + 3 → b ≠ w.heap.size → (w1.setCell ⟨w.heap.size, 0, none⟩ (.slice (some ⟨g', 0, none⟩) (k + 1) cap')).heap[b]? = W.heap[b]?) := fun b hb hne => (Below.heap_setCell _ _ _ _ hne).trans (hblk b hb)
    have HO : Hid (OwnE 94 2 H2.cs (w.heap.size + 3) (w1.setCell ⟨w.heap.size, 0, none⟩ (.slice (some ⟨g', 0, none⟩) (k + 1) cap')) (.slice (some ⟨g', 0, none⟩) (k + 1) cap') (k + 1) (liT (rdH l) l A E (k + 1))) := by
      refine ⟨by rw [liT_len], ?_⟩
      have h1 : (liT (rdH l) l A E (k + 1)).flatMap H2.cs = (liT (rdH l) l A E k).flatMap H2.cs ++ [.int .i64 f0, .int .i64 f1] := by rw [LV.out, List.flatMap_append]; rfl
      rw [h1]
      exact hown'.kept (grownBy_setCell' w1 w.heap.size _) (.inr (by simp [Value.ownBlock]; omega))
    have HG1 : Hid (GaH w.heap.size (w.heap.size + 3) p a n c l A E w (k + 1) (lsP (rdH l) l A E (k + 1)) (w1.setCell ⟨w.heap.size, 0, none⟩ (.slice (some ⟨g', 0, none⟩) (k + 1) cap'))) := by
      have hs1 : W.heap.size ≤ w1.heap.size := hKO.out.size
      refine ⟨⟨_, World.cell?_setCell_same' _ _ _ (by rw [x1]; rfl), by rw [World.frozen?_setCell]; exact x2, HO.out⟩, ?_, ?_, ?_, ?_, ?_⟩
      · exact (World.cell?_of_block (w := W) (hOb.out _ (by simp) (by simp))).trans uc
      · exact (World.cell?_of_block (w := W) (hOb.out _ (by simp) (by simp))).trans un
      · exact ur.same (hOb.out _ (by omega) (by omega))
      · refine ⟨?_, ?_, ?_, ?_, fun b hb h1 h2 => (hOb.out b (by omega) (by omega)).trans (uk.block b hb h1 h2), fun _ e => by cases e⟩
        · exact hgr.os.trans uk.os
        · exact hgr.tape.trans uk.tape
        · exact hgr.output.trans uk.output
        · have := uk.size; simp [World.setCell]; omega
      · simp [World.setCell]; omega
    have e1a := keepc ((Below.refl _ W).alloc (Nat.le_refl _) (.cells #[.int .i64 f0, .int .i64 f1] 94)) u1
    clear hgr hown' hrow hnil hblk hrowlt hplace uc un ur uk us hOb HO hbk
    gi_wp2_with (refine wpListIn_load_at 94 rfl (.tmp 6) rfl _ _ rfl _ LD ?_)
    exact ⟨(hKO.out.trans (KeepsOthers.setCell _ _ _)).from _, HG1.out⟩
  case done =>
    rintro D W hD hI hK
    obtain ⟨⟨v, u1, u2, hrow⟩, uc, un, ur, uk, us⟩ := hI
    gi_wp2
    refine ⟨by simp, .inl ⟨_, _, rfl, run_takeDeferred hK, ?_⟩⟩
    have hgO := grownBy_putObj' W D (.deferred none)
    have hrO : ∀ r, some D = some r → ∃ o : Obj, W.heap[r]? = some o ∧ o.isCells = false := fun r e => by cases e; exact ⟨_, hK, rfl⟩
    refine ⟨_, results_tmp rfl _ _ _, v, rfl, ?_, ur.own hgO hrO, uk.own (S := w.heap.size + 3) hgO (fun r e => by cases e; omega) (by omega)⟩
    have := (hrow.own hgO hrO).weaken (b' := w.heap.size) (by omega)
    rwa [liT_all] at this

theorem listH_any (p : Nat) (a : Option Addr) (n c : Nat) (l : List Int) (A E : Int) (w : World) (h : RdC w p (.slice a n c) A E) (hl : HoldsB w a n c l) (h0 : 0 ≤ A) (h1 : A ≤ n) (hne : ∀ b o, a = some ⟨b, o, none⟩ → 0 < n → b ≠ p) :
    Calls Try.prog 100 #[.pointer (some ⟨p, 0, none⟩), .func (.func 101) #[.pointer (some ⟨p, 0, none⟩)] #[]] w fun e w' => ∃ v, e = .returned v ∧ OwnE 94 2 H2.cs w.heap.size w' v (liC (rdH l) l A E) (liL (rdH l) l A E) ∧ RdC w' p (.slice a n c) (liF (rdH l) l A E).1 (liF (rdH l) l A E).2 ∧ RK p w w' := callsIn_wide.1 (listH_in p a n c l A E w h hl h0 h1 hne)
end Go.Proofs.Ythkbddnkcljjpaa

namespace Go.Proofs.Ythkbddnkcljjpaa
open Go.RowKit Go.Deep Go.Maps
set_option linter.unusedVariables false
set_option linter.unusedSimpArgs false

/-- A lease that is read: the list of its cores, the numbers behind it, the flag. -/
def rlC (l : List Int) (A E : Int) : Nat := liC (tkI l) l (tkc l A E 2).2.1 (tkc l A E 2).2.2
def rlL (l : List Int) (A E : Int) : List Int := liL (tkI l) l (tkc l A E 2).2.1 (tkc l A E 2).2.2
def rlB (l : List Int) (A E : Int) : Int × Int := liF (tkI l) l (tkc l A E 2).2.1 (tkc l A E 2).2.2
def rlN (l : List Int) (A E : Int) (k : Nat) : Int × Int × Int := tkc l (rlB l A E).1 (rlB l A E).2 k
def rlF (l : List Int) (A E : Int) : Int × Int × Int := upT l (rlN l A E 2).2.1 (rlN l A E 2).2.2 1 4
theorem rlB_at (l : List Int) (A E : Int) (h0 : 0 ≤ A) (h1 : A ≤ l.length) : 0 ≤ (rlB l A E).1 ∧ (rlB l A E).1 ≤ l.length := by
  have h := tkc_at l A E h0 h1 2
  exact liF_at (fun A E h0 h1 => tkI_at l A E h0 h1) h.1 h.2
theorem rlN_at (l : List Int) (A E : Int) (h0 : 0 ≤ A) (h1 : A ≤ l.length) (k : Nat) : 0 ≤ (rlN l A E k).2.1 ∧ (rlN l A E k).2.1 ≤ l.length := by
  have h := rlB_at l A E h0 h1
  exact tkc_at l _ _ h.1 h.2 k
theorem rlF_at (l : List Int) (A E : Int) (h0 : 0 ≤ A) (h1 : A ≤ l.length) : 0 ≤ (rlF l A E).2.1 ∧ (rlF l A E).2.1 ≤ l.length := by
  have h := rlN_at l A E h0 h1 2
  exact upT_at l _ _ 1 4 h.1 h.2
set_option maxRecDepth 100000 in
set_option maxHeartbeats 8000000 in
theorem rdlease_any (p : Nat) (a : Option Addr) (n c : Nat) (l : List Int) (A E : Int) (w : World) (h : RdC w p (.slice a n c) A E) (hl : HoldsB w a n c l) (h0 : 0 ≤ A) (h1 : A ≤ n) (hne : ∀ b o, a = some ⟨b, o, none⟩ → 0 < n → b ≠ p) :
    Calls Try.prog 92 #[.pointer (some ⟨p, 0, none⟩)] w fun e w' => ∃ v, e = .returned (.agg #[.int .i64 (tkc l A E 0).1, .int .i64 (tkc l A E 1).1, .int .i64 (tkc l A E 2).1, v, .int .i64 (rlN l A E 0).1, .int .i64 (rlN l A E 1).1, .int .i64 (rlN l A E 2).1, .bool ((rlF l A E).1 == 1)]) ∧ OwnN w.heap.size w' v (rlC l A E) (rlL l A E) ∧ RdC w' p (.slice a n c) (rlF l A E).2.1 (rlF l A E).2.2 ∧ RK p w w' := by
  have hlen := hl.1
  have hnm := hl.2.1
  have hP := h.lt
  go_enter Try.func92, Try.ntmps92
  go_upto_region 1 with fail
  have B0 := (Below.refl w.heap.size w).alloc (Nat.le_refl _) (.cells #[.int .i64 0, .int .i64 0, .int .i64 0, .slice none 0 0, .int .i64 0, .int .i64 0, .int .i64 0, .bool false] 138)
  have H0 := hid (h.below B0)
  have L0 := hid (hl.below B0)
  have K0 : Hid (RK p w (w.alloc (.cells #[.int .i64 0, .int .i64 0, .int .i64 0, .slice none 0 0, .int .i64 0, .int .i64 0, .int .i64 0, .bool false] 138))) := WK.of_below B0
  have BX := hid (Blk.alloc w #[.int .i64 0, .int .i64 0, .int .i64 0, .slice none 0 0, .int .i64 0, .int .i64 0, .int .i64 0, .bool false] (138))
  have hQ : w.heap.size ≠ p := by omega
  clear h hl B0
  generalize (w.alloc (.cells #[.int .i64 0, .int .i64 0, .int .i64 0, .slice none 0 0, .int .i64 0, .int .i64 0, .int .i64 0, .bool false] 138)) = W0 at *
  generalize hq : w.heap.size = QB at *
  have AT := hid (tkc_at l A E h0 (by omega))
  have RB := hid (rlB_at l A E h0 (by omega))
  have RN := hid (rlN_at l A E h0 (by omega))
  have C0 : Hid (Calls Try.prog 86 #[.pointer (some ⟨p, 0, none⟩)] W0 fun e w' => e = .returned (.int .i64 (tkc l A E 0).1) ∧ RdC w' p (.slice a n c) ((tkc l A E 0).2.1) ((tkc l A E 0).2.2) ∧ RK p W0 w') := by
    exact rint_any p a n c l A E W0 H0.out L0.out ⟨by omega, by omega⟩ hne
  go_wp2_with fail
  with_reducible refine C0.out.mono ?_
  rintro e W1 ⟨rfl, r, k⟩
  have H1 := hid r
  have L1 := hid (k.holds L0.out hne)
  replace BX := hid (BX.out.rk k hQ)
  have K1 := hid (K0.out.trans k)
  clear C0 r k H0 L0 K0
  have C1 : Hid (Calls Try.prog 86 #[.pointer (some ⟨p, 0, none⟩)] W1 fun e w' => e = .returned (.int .i64 (tkc l A E 1).1) ∧ RdC w' p (.slice a n c) ((tkc l A E 1).2.1) ((tkc l A E 1).2.2) ∧ RK p W1 w') := by
    exact rint_any p a n c l (tkc l A E 0).2.1 (tkc l A E 0).2.2 W1 H1.out L1.out ⟨by have := AT.out 0; omega, by have := AT.out 0; omega⟩ hne
  go_wp2_with fail
  with_reducible refine C1.out.mono ?_
  rintro e W2 ⟨rfl, r, k⟩
  have H2 := hid r
  have L2 := hid (k.holds L1.out hne)
  replace BX := hid (BX.out.rk k hQ)
  have K2 := hid (K1.out.trans k)
  clear C1 r k H1 L1 K1
  have C2 : Hid (Calls Try.prog 86 #[.pointer (some ⟨p, 0, none⟩)] W2 fun e w' => e = .returned (.int .i64 (tkc l A E 2).1) ∧ RdC w' p (.slice a n c) ((tkc l A E 2).2.1) ((tkc l A E 2).2.2) ∧ RK p W2 w') := by
    exact rint_any p a n c l (tkc l A E 1).2.1 (tkc l A E 1).2.2 W2 H2.out L2.out ⟨by have := AT.out 1; omega, by have := AT.out 1; omega⟩ hne
  go_wp2_with fail
  with_reducible refine C2.out.mono ?_
  rintro e W3 ⟨rfl, r, k⟩
  have H3 := hid r
  have L3 := hid (k.holds L2.out hne)
  replace BX := hid (BX.out.rk k hQ)
  have K3 := hid (K2.out.trans k)
  clear C2 r k H2 L2 K2
  have C3 : Hid (Calls Try.prog 90 #[.pointer (some ⟨p, 0, none⟩), .func (.func 86) #[.pointer (some ⟨p, 0, none⟩)] #[]] W3 fun e w' => ∃ v, e = .returned v ∧ OwnN W3.heap.size w' v (rlC l A E) (rlL l A E) ∧ RdC w' p (.slice a n c) ((rlB l A E).1) ((rlB l A E).2) ∧ RK p W3 w') := by
    exact listI_any p a n c l (tkc l A E 2).2.1 (tkc l A E 2).2.2 W3 H3.out L3.out (by have := AT.out 2; omega) (by have := AT.out 2; omega) hne
  go_wp2_with fail
  with_reducible refine C3.out.mono ?_
  rintro e W4 ⟨v, rfl, ow, r, k⟩
  have H4 := hid r
  have L4 := hid (k.holds L3.out hne)
  have OW := hid (ow.weaken (b' := QB + 1) (by have := BX.out.lt; omega))
  clear ow
  replace BX := hid (BX.out.rk k hQ)
  have K4 := hid (K3.out.trans k)
  clear C3 r k H3 L3 K3
  have C4 : Hid (Calls Try.prog 85 #[.pointer (some ⟨p, 0, none⟩)] W4 fun e w' => e = .returned (.int .i64 (rlN l A E 0).1) ∧ RdC w' p (.slice a n c) ((rlN l A E 0).2.1) ((rlN l A E 0).2.2) ∧ RK p W4 w') := by
    exact rint64_any p a n c l (rlB l A E).1 (rlB l A E).2 W4 H4.out L4.out ⟨by have := RB.out; omega, by have := RB.out; omega⟩ hne
  go_wp2_with fail
  with_reducible refine C4.out.mono ?_
  rintro e W5 ⟨rfl, r, k⟩
  have H5 := hid r
  have L5 := hid (k.holds L4.out hne)
  replace OW := hid (OW.out.rk k (by omega))
  replace BX := hid (BX.out.rk k hQ)
  have K5 := hid (K4.out.trans k)
  clear C4 r k H4 L4 K4
  have C5 : Hid (Calls Try.prog 85 #[.pointer (some ⟨p, 0, none⟩)] W5 fun e w' => e = .returned (.int .i64 (rlN l A E 1).1) ∧ RdC w' p (.slice a n c) ((rlN l A E 1).2.1) ((rlN l A E 1).2.2) ∧ RK p W5 w') := by
    exact rint64_any p a n c l (rlN l A E 0).2.1 (rlN l A E 0).2.2 W5 H5.out L5.out ⟨by have := RN.out 0; omega, by have := RN.out 0; omega⟩ hne
  go_wp2_with fail
  with_reducible refine C5.out.mono ?_
  rintro e W6 ⟨rfl, r, k⟩
  have H6 := hid r
  have L6 := hid (k.holds L5.out hne)
  replace OW := hid (OW.out.rk k (by omega))
  replace BX := hid (BX.out.rk k hQ)
  have K6 := hid (K5.out.trans k)
  clear C5 r k H5 L5 K5
  have C6 : Hid (Calls Try.prog 85 #[.pointer (some ⟨p, 0, none⟩)] W6 fun e w' => e = .returned (.int .i64 (rlN l A E 2).1) ∧ RdC w' p (.slice a n c) ((rlN l A E 2).2.1) ((rlN l A E 2).2.2) ∧ RK p W6 w') := by
    exact rint64_any p a n c l (rlN l A E 1).2.1 (rlN l A E 1).2.2 W6 H6.out L6.out ⟨by have := RN.out 1; omega, by have := RN.out 1; omega⟩ hne
  go_wp2_with fail
  with_reducible refine C6.out.mono ?_
  rintro e W7 ⟨rfl, r, k⟩
  have H7 := hid r
  have L7 := hid (k.holds L6.out hne)
  replace OW := hid (OW.out.rk k (by omega))
  replace BX := hid (BX.out.rk k hQ)
  have K7 := hid (K6.out.trans k)
  clear C6 r k H6 L6 K6
  have C7 : Hid (Calls Try.prog 109 #[.pointer (some ⟨p, 0, none⟩), .int .u64 1, .int .i64 4] W7 fun e w' => e = .returned (.int .u64 (rlF l A E).1) ∧ RdC w' p (.slice a n c) ((rlF l A E).2.1) ((rlF l A E).2.2) ∧ RK p W7 w') := by
    exact upto_any p a n c l (rlN l A E 2).2.1 (rlN l A E 2).2.2 1 4 W7 H7.out L7.out ⟨by have := RN.out 2; omega, by have := RN.out 2; omega⟩ (by omega) hne
  go_wp2_with fail
  with_reducible refine C7.out.mono ?_
  rintro e W8 ⟨rfl, r, k⟩
  have H8 := hid r
  have L8 := hid (k.holds L7.out hne)
  replace OW := hid (OW.out.rk k (by omega))
  replace BX := hid (BX.out.rk k hQ)
  have K8 := hid (K7.out.trans k)
  clear C7 r k H7 L7 K7
  obtain ⟨va, vc, rfl⟩ := OW.out.form
  generalize hx0 : (tkc l A E 0).1 = x0 at *
  have X0 := hid hx0
  clear hx0
  generalize hx1 : (tkc l A E 1).1 = x1 at *
  have X1 := hid hx1
  clear hx1
  generalize hx2 : (tkc l A E 2).1 = x2 at *
  have X2 := hid hx2
  clear hx2
  generalize hx4 : (rlN l A E 0).1 = x4 at *
  have X4 := hid hx4
  clear hx4
  generalize hx5 : (rlN l A E 1).1 = x5 at *
  have X5 := hid hx5
  clear hx5
  generalize hx6 : (rlN l A E 2).1 = x6 at *
  have X6 := hid hx6
  clear hx6
  generalize hx7 : (rlF l A E).1 = x7 at *
  have X7 := hid hx7
  clear hx7
  have BH := BX.out
  unfold Blk at BH
  go_wp2_with (first | refine wpList_built rfl 138 _ rfl #[.int .i64 x0, .int .i64 x1, .int .i64 x2, .slice va (rlC l A E) vc, .int .i64 x4, .int .i64 x5, .int .i64 x6, .bool (x7 == 1)] (by kernel_rfl) ?_ | refine wpList_store_row rfl 138 (.tmp 2) (.tmp 22) rfl QB #[.int .i64 x0, .int .i64 x1, .int .i64 x2, .slice va (rlC l A E) vc, .int .i64 x4, .int .i64 x5, .int .i64 x6, .bool (x7 == 1)] rfl rfl 138 _ BH sizeLease rfl (by simp [Value.oneCell']) ?_)
  clear BH
  refine bodyPost_ret (results_cell rfl rfl ((BX.out.row #[.int .i64 x0, .int .i64 x1, .int .i64 x2, .slice va (rlC l A E) vc, .int .i64 x4, .int .i64 x5, .int .i64 x6, .bool (x7 == 1)]).loadVar Try.underlying138 rfl sizeLease)) rfl ?_
  refine ⟨_, by rw [X0.out, X1.out, X2.out, X4.out, X5.out, X6.out, X7.out], (OW.out.row (by omega) _).weaken (by omega), H8.out.same (setRow_other _ _ _ _ (fun e => hQ e.symm)), K8.out.row _ _ (by omega)⟩
end Go.Proofs.Ythkbddnkcljjpaa

namespace Go.Proofs.Ythkbddnkcljjpaa
open Go.RowKit Go.Deep Go.Maps
set_option linter.unusedVariables false
set_option linter.unusedSimpArgs false
attribute [local go_sem] Oper.semAt_some
attribute [local go_sem ↓] appF_eq

/-- A task, a lease as they are read: but for where their lists lie. -/
def rdT (l : List Int) (A E : Int) : T7 × Int × Int := (⟨(tkc l A E 0).1, (tkc l A E 1).1, (tkc l A E 2).1, (tkc l A E 3).1, (tkc l A E 4).1, none, taC l A E, 0, (taE l A E).1, taL l A E⟩, (taE l A E).2)
def rdL (l : List Int) (A E : Int) : Le × Int × Int := (⟨(tkc l A E 0).1, (tkc l A E 1).1, (tkc l A E 2).1, none, rlC l A E, 0, (rlN l A E 0).1, (rlN l A E 1).1, (rlN l A E 2).1, ((rlF l A E).1 == 1), rlL l A E⟩, (rlF l A E).2)
theorem rdT_at (l : List Int) (A E : Int) (h0 : 0 ≤ A) (h1 : A ≤ l.length) : 0 ≤ (rdT l A E).2.1 ∧ (rdT l A E).2.1 ≤ l.length := taE_at l A E h0 h1
theorem rdL_at (l : List Int) (A E : Int) (h0 : 0 ≤ A) (h1 : A ≤ l.length) : 0 ≤ (rdL l A E).2.1 ∧ (rdL l A E).2.1 ≤ l.length := rlF_at l A E h0 h1
theorem rdT_el (p : Nat) (a : Option Addr) (n c : Nat) (l : List Int) (A E : Int) (w : World) (h : RdC w p (.slice a n c) A E) (hl : HoldsB w a n c l) (h0 : 0 ≤ A) (h1 : A ≤ n) (hne : ∀ b o, a = some ⟨b, o, none⟩ → 0 < n → b ≠ p) :
    Calls Try.prog 99 #[.pointer (some ⟨p, 0, none⟩)] w fun e w' => ∃ y : T7, e = .returned (.agg y.cs.toArray) ∧ TaSame (rdT l A E).1 y ∧ OwnN w.heap.size w' (.slice y.sa y.sl y.sc) y.sl y.tk ∧ RdC w' p (.slice a n c) (rdT l A E).2.1 (rdT l A E).2.2 ∧ RK p w w' := by
  refine (rdtask_any p a n c l A E w h hl h0 h1 hne).mono ?_
  rintro e w' ⟨v, rfl, ow, r, k⟩
  obtain ⟨va, vc, rfl⟩ := ow.form
  exact ⟨⟨_, _, _, _, _, va, taC l A E, vc, _, taL l A E⟩, rfl, ⟨rfl, rfl, rfl, rfl, rfl, rfl, rfl, rfl⟩, ow, r, k⟩
theorem rdL_el (p : Nat) (a : Option Addr) (n c : Nat) (l : List Int) (A E : Int) (w : World) (h : RdC w p (.slice a n c) A E) (hl : HoldsB w a n c l) (h0 : 0 ≤ A) (h1 : A ≤ n) (hne : ∀ b o, a = some ⟨b, o, none⟩ → 0 < n → b ≠ p) :
    Calls Try.prog 92 #[.pointer (some ⟨p, 0, none⟩)] w fun e w' => ∃ y : Le, e = .returned (.agg y.cs.toArray) ∧ LeSame (rdL l A E).1 y ∧ OwnN w.heap.size w' (.slice y.sa y.sl y.sc) y.sl y.co ∧ RdC w' p (.slice a n c) (rdL l A E).2.1 (rdL l A E).2.2 ∧ RK p w w' := by
  refine (rdlease_any p a n c l A E w h hl h0 h1 hne).mono ?_
  rintro e w' ⟨v, rfl, ow, r, k⟩
  obtain ⟨va, vc, rfl⟩ := ow.form
  exact ⟨⟨_, _, _, va, rlC l A E, vc, _, _, _, _, rlL l A E⟩, rfl, ⟨rfl, rfl, rfl, rfl, rfl, rfl, rfl, rfl, rfl⟩, ow, r, k⟩

theorem elemsT_mk (p : Nat) (w : World) :
    Calls Try.prog 117 #[.pointer (some ⟨p, 0, none⟩), .func (.func 99) #[.pointer (some ⟨p, 0, none⟩)] #[]] w fun e w' => e = .returned (.func (.func 128) #[] #[.pointer (some ⟨w.heap.size, 0, none⟩), .pointer (some ⟨w.heap.size + 1, 0, none⟩)]) ∧ ∃ t1 t2, (w.alloc (.cells #[.pointer (some ⟨p, 0, none⟩)] t1)).alloc (.cells #[.func (.func 99) #[.pointer (some ⟨p, 0, none⟩)] #[]] t2) = w' := by
  go_enter Try.func117, Try.ntmps117
  go_wp2
  go_ret
  exact ⟨rfl, _, _, rfl⟩

set_option maxRecDepth 100000 in
set_option maxHeartbeats 4000000 in
theorem elemsT_turns (m : Nat) (hm : 2 ≤ m) (p Bg Bn : Nat) (a : Option Addr) (n c : Nat) (l : List Int) (A E : Int) (w : World) (h0 : 0 ≤ A) (h1 : A ≤ n) (hlen : l.length = n) (hn : n ≤ 9223372036854775807) (hbb : BB l) (hne : ∀ b o, a = some ⟨b, o, none⟩ → 0 < n → b ≠ p) (ng : Bg ≠ p) (nb : Bn ≠ p) :
    TurnsX Fence.wide m Try.prog 128 #[.pointer (some ⟨Bg, 0, none⟩), .pointer (some ⟨Bn, 0, none⟩)] (liC (rdT l) l A E)
      (fun k W => W.cell? ⟨Bg, 0, none⟩ = some (.pointer (some ⟨p, 0, none⟩)) ∧ W.cell? ⟨Bn, 0, none⟩ = some (.func (.func 99) #[.pointer (some ⟨p, 0, none⟩)] #[]) ∧ RdC W p (.slice a n c) (lsP (rdT l) l A E k).1 (lsP (rdT l) l A E k).2 ∧ HoldsB W a n c l)
      (fun k x W B => (∃ y : T7, x = .agg y.cs.toArray ∧ TaSame (liV (rdT l) l A E k) y ∧ OwnN W.heap.size B (.slice y.sa y.sl y.sc) y.sl y.tk) ∧ RdC B p (.slice a n c) (lsP (rdT l) l A E (k + 1)).1 (lsP (rdT l) l A E (k + 1)).2 ∧ RK p W B)
      (fun W B => RdC B p (.slice a n c) (liF (rdT l) l A E).1 (liF (rdT l) l A E).2 ∧ RK p W B) w := fun lp J JM JF W hW hRd hSt hFi hY hJ0 => by
  have hm1 : 1 ≤ m := by omega
  obtain ⟨cg0, cn0, r0, l0⟩ := hRd 0 W hJ0
  rw [lsP_zero] at r0
  have CB := hid (upT_bd l A E 1024 3 hbb (by omega))
  have AT := hid (upT_at l A E 1024 3 h0 (by omega))
  have AS := hid (fun k => lsS_at (pe := (rdT l)) (n := n) (E := (upT l A E 1024 3).2.2) (fun A E h0 h1 => by have := rdT_at l A E h0 (by omega); omega) AT.out.1 (by have := AT.out.2; omega) k)
  have UP := hid (upto_any p a n c l A E 1024 3 W r0 l0 ⟨by omega, by omega⟩ (by omega) hne)
  have NN : Hid (liC (rdT l) l A E = lsN (rdT l) (upT l A E 1024 3).2.1 (upT l A E 1024 3).2.2 (upT l A E 1024 3).1.toNat 0) := rfl
  have FF : Hid (liF (rdT l) l A E = if liC (rdT l) l A E < (upT l A E 1024 3).1.toNat then lsS (rdT l) (upT l A E 1024 3).2.1 (upT l A E 1024 3).2.2 (liC (rdT l) l A E + 1) else lsS (rdT l) (upT l A E 1024 3).2.1 (upT l A E 1024 3).2.2 (liC (rdT l) l A E)) := rfl
  have ST := hid hSt
  have FI := hid hFi
  have YY := hid hY
  have RR := hid hRd
  have J0 := hid hJ0
  have PS := hid (fun k => lsP_succ (rdT l) l A E k)
  have PV : Hid (∀ k, liV (rdT l) l A E k = lsV (rdT l) (upT l A E 1024 3).2.1 (upT l A E 1024 3).2.2 k) := fun k => rfl
  have HB := hid l0
  have CN := hid cn0
  clear hSt hFi hY hRd hJ0 cn0 r0 l0
  generalize hli : liC (rdT l) l A E = N at *
  generalize liF (rdT l) l A E = FN at *
  generalize hup : upT l A E 1024 3 = U at *
  obtain ⟨cc, A0, E0⟩ := U
  simp only at CB AT AS UP NN FF PS PV
  obtain ⟨C, rfl⟩ : ∃ C : Nat, cc = (C : Int) := ⟨cc.toNat, by have := CB.out.1; omega⟩
  have hC : C ≤ 1024 := by have := CB.out.2; omega
  have NL := hid (lsN_le (rdT l) A0 E0 C 0)
  have NY := hid (lsN_yes (rdT l) A0 E0 C 0)
  have NO := hid (lsN_no (rdT l) A0 E0 C 0)
  simp only [Int.toNat_natCast] at NN FF
  rw [← NN.out] at NL NY NO
  have hNC : N ≤ C := by have := NL.out.2; omega
  clear NN CB AT hup hli NL
  refine callsIn_of_wp Try.func128 rfl trivial ?_ rfl
  simp only [Try.ntmps128, List.size_toArray, List.length_cons, List.length_nil, Nat.reduceAdd, Nat.reduceSub, Array.replicate_succ, Array.replicate_zero, List.push_toArray, List.append_toArray, List.nil_append, List.cons_append]
  gi_wp2
  refine ⟨trivial, ?_⟩
  refine (callsIn_wide.2 UP.out).mono ?_
  rintro e W1 ⟨rfl, r1, k1⟩
  have SW : Hid (∃ W0, J 0 W0 ∧ RK p W0 W1 ∧ RdC W1 p (.slice a n c) A0 E0) := ⟨W, J0.out, k1, r1⟩
  clear UP cg0 r1 k1
  gi_wp2
  gi_loopw [7] (fun v wr => ∃ k : Nat, k ≤ N ∧ v = .int .u64 (k : Int) ∧ Hid (∃ W0, J k W0 ∧ RK p W0 wr ∧ RdC wr p (.slice a n c) (lsS (rdT l) A0 E0 k).1 (lsS (rdT l) A0 E0 k).2)) (fun v _ => N + 1 - (intOf v).toNat)
  case atStart => exact ⟨0, by omega, rfl, SW.out⟩
  case round =>
    clear SW
    obtain ⟨k, hk, rfl, hX⟩ := hrel
    obtain ⟨W0, hJ, hK, hR⟩ := hX.out
    obtain ⟨cg, cn, _, hB⟩ := RR.out k W0 hJ
    replace cg := hK.keep cg ng
    replace cn := hK.keep cn nb
    replace hB := hK.holds hB hne
    have hK' := hid hK
    have hJ' := hid hJ
    have hRR := hid hR
    have C1 := hid (rdT_el p a n c l (lsS (rdT l) A0 E0 k).1 (lsS (rdT l) A0 E0 k).2 wr hR hB (AS.out k).1 (AS.out k).2 hne)
    clear hX hJ hK hR hB
    have ka : (0 : Int) ≤ (k : Int) := by omega
    by_cases hlt : k < C
    · have kb : (k : Int) < (C : Int) := by omega
      have tb : decide ((k : Int) < (C : Int)) = true := by simp; omega
      have EV : Hid (lsV (rdT l) A0 E0 k = ((rdT l) (lsS (rdT l) A0 E0 k).1 (lsS (rdT l) A0 E0 k).2).1) := rfl
      have ES : Hid (lsS (rdT l) A0 E0 (k + 1) = ((rdT l) (lsS (rdT l) A0 E0 k).1 (lsS (rdT l) A0 E0 k).2).2) := rfl
      generalize ((rdT l) (lsS (rdT l) A0 E0 k).1 (lsS (rdT l) A0 E0 k).2) = Z at *
      obtain ⟨z, A1, E1⟩ := Z
      simp only at C1 EV ES
      gi_wp2
      refine ⟨trivial, ?_⟩
      refine (callsIn_wide.2 C1.out).mono ?_
      rintro e W2 ⟨y, rfl, hy, oy, r2, k2⟩
      obtain ⟨W3, hW3⟩ : ∃ W3, W2.alloc (.cells y.cs.toArray 30) = W3 := ⟨_, rfl⟩
      have b3 : Below W2.heap.size W2 W3 := by rw [← hW3]; exact (Below.refl _ _).alloc (Nat.le_refl _) _
      have CX := hid (show Blk W3 W2.heap.size 30 y.cs.toArray by rw [← hW3]; exact Blk.alloc _ _ _)
      have HW3 := hid hW3
      have K2 := hid ((hK'.out.trans k2).bel b3)
      have R2 := hid (r2.below b3)
      have cg2 := keepc b3 (k2.keep cg ng)
      have cg2' := k2.keep cg ng
      obtain ⟨⟨q0, q1, q2⟩, qf0, qf1, qf2⟩ := r2.below b3
      have HO1 := hid (all_oneCell_toArray (T7.one y))
      have HK : Hid (y.cs.length = 7) := rfl
      clear C1 qf0 qf1 qf2 q0 q1 r2 k2 cg cn hW3
      have OY : Hid (OwnN W0.heap.size W3 (.slice y.sa y.sl y.sc) y.sl y.tk) := (OwnE.rk oy (WK.of_below b3 : RK p W2 W3) hRR.out.lt).weaken hK'.out.size
      have HY9 := hid hy
      clear oy hy b3
      generalize hzc : y.cs = ZC at *
      have EZ := hid hzc
      clear hzc
      have hsz : (Try.prog.info? 30).map (·.size) = some ZC.toArray.size := by rw [List.size_toArray, HK.out]; exact sizeTask
      have LD := CX.out.loadAt Try.underlying30 rfl hsz
      by_cases hN : k < N
      · have e0 : E1 = 0 := by have := NY.out k (by omega) hN; rw [ES.out] at this; exact this
        subst e0
        have hMJ := ST.out k (.agg ZC.toArray) W0 W3 hJ'.out hN ⟨⟨y, by rw [EZ.out], by rw [PV.out, EV.out]; exact HY9.out, OY.out⟩, by rw [PS.out, ES.out]; exact R2.out, K2.out⟩
        obtain ⟨fn, tmps, assign, body, hy, hR⟩ := YY.out k (.agg ZC.toArray) W3 hMJ hN
        have HR := hid hR
        clear hMJ hR
        gi_wp2_with (first | refine wpListIn_store_new rfl 30 (.tmp 4) (.tmp 10) rfl ZC.toArray rfl rfl 30 _ hsz (by show 7 = ZC.toArray.size; rw [List.size_toArray, HK.out]) HO1.out W3 HW3.out ?_ | refine wpListIn_load_at 30 rfl (.tmp 4) rfl _ _ rfl _ LD ?_)
        refine HR.out.mono ?_
        rintro e W4 ⟨rfl, J4⟩
        have HJ4 := hid J4
        have P4 := hid (RR.out _ W4 J4)
        clear J4
        gi_wp2
        go_roundw
        case rel => exact ⟨k + 1, by omega, by go_num, W4, HJ4.out, RK.refl _ _, by have := P4.out.2.2.1; rw [PS.out] at this; exact this⟩
        case measure => simp [intOf]; omega
      · have ek : N = k := by omega
        subst ek
        have e0 : E1 ≠ 0 := by have := NO.out (by omega); rw [ES.out] at this; exact this
        have te : (E1 != 0) = true := by simpa using e0
        have HF := FI.out W0 W3 hJ'.out ⟨by rw [FF.out, if_pos hlt, ES.out]; exact R2.out, K2.out⟩
        have HF' := hid HF
        clear HF e0
        gi_wp2_with (first | refine wpListIn_store_new rfl 30 (.tmp 4) (.tmp 10) rfl ZC.toArray rfl rfl 30 _ hsz (by show 7 = ZC.toArray.size; rw [List.size_toArray, HK.out]) HO1.out W3 HW3.out ?_ | refine wpListIn_load_at 30 rfl (.tmp 4) rfl _ _ rfl _ LD ?_)
        refine ⟨fun f hf => (by cases hf), ?_⟩
        gi_wp2
        refine bodyPost_ret (results_none rfl _ _ _) rfl ?_
        exact ⟨⟨_, rfl⟩, HF'.out⟩
    · have kc : k = C := by omega
      have kn : N = k := by omega
      subst kn
      have tb : decide ((N : Int) < (C : Int)) = false := by simp; omega
      obtain ⟨W0', hJ2, hK2, hR2⟩ : ∃ W0, J N W0 ∧ RK p W0 wr ∧ RdC wr p (.slice a n c) (lsS (rdT l) A0 E0 N).1 (lsS (rdT l) A0 E0 N).2 := ⟨W0, hJ'.out, hK'.out, hRR.out⟩
      have HF := FI.out W0' wr hJ2 ⟨by rw [FF.out, if_neg hlt]; exact hR2, hK2⟩
      have HF' := hid HF
      clear HF hJ2 hK2 hR2 C1
      gi_wp2
      go_end0
      exact ⟨⟨_, rfl⟩, HF'.out⟩

theorem elemsL_mk (p : Nat) (w : World) :
    Calls Try.prog 113 #[.pointer (some ⟨p, 0, none⟩), .func (.func 92) #[.pointer (some ⟨p, 0, none⟩)] #[]] w fun e w' => e = .returned (.func (.func 125) #[] #[.pointer (some ⟨w.heap.size, 0, none⟩), .pointer (some ⟨w.heap.size + 1, 0, none⟩)]) ∧ ∃ t1 t2, (w.alloc (.cells #[.pointer (some ⟨p, 0, none⟩)] t1)).alloc (.cells #[.func (.func 92) #[.pointer (some ⟨p, 0, none⟩)] #[]] t2) = w' := by
  go_enter Try.func113, Try.ntmps113
  go_wp2
  go_ret
  exact ⟨rfl, _, _, rfl⟩

set_option maxRecDepth 100000 in
set_option maxHeartbeats 4000000 in
theorem elemsL_turns (m : Nat) (hm : 2 ≤ m) (p Bg Bn : Nat) (a : Option Addr) (n c : Nat) (l : List Int) (A E : Int) (w : World) (h0 : 0 ≤ A) (h1 : A ≤ n) (hlen : l.length = n) (hn : n ≤ 9223372036854775807) (hbb : BB l) (hne : ∀ b o, a = some ⟨b, o, none⟩ → 0 < n → b ≠ p) (ng : Bg ≠ p) (nb : Bn ≠ p) :
    TurnsX Fence.wide m Try.prog 125 #[.pointer (some ⟨Bg, 0, none⟩), .pointer (some ⟨Bn, 0, none⟩)] (liC (rdL l) l A E)
      (fun k W => W.cell? ⟨Bg, 0, none⟩ = some (.pointer (some ⟨p, 0, none⟩)) ∧ W.cell? ⟨Bn, 0, none⟩ = some (.func (.func 92) #[.pointer (some ⟨p, 0, none⟩)] #[]) ∧ RdC W p (.slice a n c) (lsP (rdL l) l A E k).1 (lsP (rdL l) l A E k).2 ∧ HoldsB W a n c l)
      (fun k x W B => (∃ y : Le, x = .agg y.cs.toArray ∧ LeSame (liV (rdL l) l A E k) y ∧ OwnN W.heap.size B (.slice y.sa y.sl y.sc) y.sl y.co) ∧ RdC B p (.slice a n c) (lsP (rdL l) l A E (k + 1)).1 (lsP (rdL l) l A E (k + 1)).2 ∧ RK p W B)
      (fun W B => RdC B p (.slice a n c) (liF (rdL l) l A E).1 (liF (rdL l) l A E).2 ∧ RK p W B) w := fun lp J JM JF W hW hRd hSt hFi hY hJ0 => by
  have hm1 : 1 ≤ m := by omega
  obtain ⟨cg0, cn0, r0, l0⟩ := hRd 0 W hJ0
  rw [lsP_zero] at r0
  have CB := hid (upT_bd l A E 1024 3 hbb (by omega))
  have AT := hid (upT_at l A E 1024 3 h0 (by omega))
  have AS := hid (fun k => lsS_at (pe := (rdL l)) (n := n) (E := (upT l A E 1024 3).2.2) (fun A E h0 h1 => by have := rdL_at l A E h0 (by omega); omega) AT.out.1 (by have := AT.out.2; omega) k)
  have UP := hid (upto_any p a n c l A E 1024 3 W r0 l0 ⟨by omega, by omega⟩ (by omega) hne)
  have NN : Hid (liC (rdL l) l A E = lsN (rdL l) (upT l A E 1024 3).2.1 (upT l A E 1024 3).2.2 (upT l A E 1024 3).1.toNat 0) := rfl
  have FF : Hid (liF (rdL l) l A E = if liC (rdL l) l A E < (upT l A E 1024 3).1.toNat then lsS (rdL l) (upT l A E 1024 3).2.1 (upT l A E 1024 3).2.2 (liC (rdL l) l A E + 1) else lsS (rdL l) (upT l A E 1024 3).2.1 (upT l A E 1024 3).2.2 (liC (rdL l) l A E)) := rfl
  have ST := hid hSt
  have FI := hid hFi
  have YY := hid hY
  have RR := hid hRd
  have J0 := hid hJ0
  have PS := hid (fun k => lsP_succ (rdL l) l A E k)
  have PV : Hid (∀ k, liV (rdL l) l A E k = lsV (rdL l) (upT l A E 1024 3).2.1 (upT l A E 1024 3).2.2 k) := fun k => rfl
  have HB := hid l0
  have CN := hid cn0
  clear hSt hFi hY hRd hJ0 cn0 r0 l0
  generalize hli : liC (rdL l) l A E = N at *
  generalize liF (rdL l) l A E = FN at *
  generalize hup : upT l A E 1024 3 = U at *
  obtain ⟨cc, A0, E0⟩ := U
  simp only at CB AT AS UP NN FF PS PV
  obtain ⟨C, rfl⟩ : ∃ C : Nat, cc = (C : Int) := ⟨cc.toNat, by have := CB.out.1; omega⟩
  have hC : C ≤ 1024 := by have := CB.out.2; omega
  have NL := hid (lsN_le (rdL l) A0 E0 C 0)
  have NY := hid (lsN_yes (rdL l) A0 E0 C 0)
  have NO := hid (lsN_no (rdL l) A0 E0 C 0)
  simp only [Int.toNat_natCast] at NN FF
  rw [← NN.out] at NL NY NO
  have hNC : N ≤ C := by have := NL.out.2; omega
  clear NN CB AT hup hli NL
  refine callsIn_of_wp Try.func125 rfl trivial ?_ rfl
  simp only [Try.ntmps125, List.size_toArray, List.length_cons, List.length_nil, Nat.reduceAdd, Nat.reduceSub, Array.replicate_succ, Array.replicate_zero, List.push_toArray, List.append_toArray, List.nil_append, List.cons_append]
  gi_wp2
  refine ⟨trivial, ?_⟩
  refine (callsIn_wide.2 UP.out).mono ?_
  rintro e W1 ⟨rfl, r1, k1⟩
  have SW : Hid (∃ W0, J 0 W0 ∧ RK p W0 W1 ∧ RdC W1 p (.slice a n c) A0 E0) := ⟨W, J0.out, k1, r1⟩
  clear UP cg0 r1 k1
  gi_wp2
  gi_loopw [7] (fun v wr => ∃ k : Nat, k ≤ N ∧ v = .int .u64 (k : Int) ∧ Hid (∃ W0, J k W0 ∧ RK p W0 wr ∧ RdC wr p (.slice a n c) (lsS (rdL l) A0 E0 k).1 (lsS (rdL l) A0 E0 k).2)) (fun v _ => N + 1 - (intOf v).toNat)
  case atStart => exact ⟨0, by omega, rfl, SW.out⟩
  case round =>
    clear SW
    obtain ⟨k, hk, rfl, hX⟩ := hrel
    obtain ⟨W0, hJ, hK, hR⟩ := hX.out
    obtain ⟨cg, cn, _, hB⟩ := RR.out k W0 hJ
    replace cg := hK.keep cg ng
    replace cn := hK.keep cn nb
    replace hB := hK.holds hB hne
    have hK' := hid hK
    have hJ' := hid hJ
    have hRR := hid hR
    have C1 := hid (rdL_el p a n c l (lsS (rdL l) A0 E0 k).1 (lsS (rdL l) A0 E0 k).2 wr hR hB (AS.out k).1 (AS.out k).2 hne)
    clear hX hJ hK hR hB
    have ka : (0 : Int) ≤ (k : Int) := by omega
    by_cases hlt : k < C
    · have kb : (k : Int) < (C : Int) := by omega
      have tb : decide ((k : Int) < (C : Int)) = true := by simp; omega
      have EV : Hid (lsV (rdL l) A0 E0 k = ((rdL l) (lsS (rdL l) A0 E0 k).1 (lsS (rdL l) A0 E0 k).2).1) := rfl
      have ES : Hid (lsS (rdL l) A0 E0 (k + 1) = ((rdL l) (lsS (rdL l) A0 E0 k).1 (lsS (rdL l) A0 E0 k).2).2) := rfl
      generalize ((rdL l) (lsS (rdL l) A0 E0 k).1 (lsS (rdL l) A0 E0 k).2) = Z at *
      obtain ⟨z, A1, E1⟩ := Z
      simp only at C1 EV ES
      gi_wp2
      refine ⟨trivial, ?_⟩
      refine (callsIn_wide.2 C1.out).mono ?_
      rintro e W2 ⟨y, rfl, hy, oy, r2, k2⟩
      obtain ⟨W3, hW3⟩ : ∃ W3, W2.alloc (.cells y.cs.toArray 138) = W3 := ⟨_, rfl⟩
      have b3 : Below W2.heap.size W2 W3 := by rw [← hW3]; exact (Below.refl _ _).alloc (Nat.le_refl _) _
      have CX := hid (show Blk W3 W2.heap.size 138 y.cs.toArray by rw [← hW3]; exact Blk.alloc _ _ _)
      have HW3 := hid hW3
      have K2 := hid ((hK'.out.trans k2).bel b3)
      have R2 := hid (r2.below b3)
      have cg2 := keepc b3 (k2.keep cg ng)
      have cg2' := k2.keep cg ng
      obtain ⟨⟨q0, q1, q2⟩, qf0, qf1, qf2⟩ := r2.below b3
      have HO1 := hid (all_oneCell_toArray (Le.one y))
      have HK : Hid (y.cs.length = 8) := rfl
      clear C1 qf0 qf1 qf2 q0 q1 r2 k2 cg cn hW3
      have OY : Hid (OwnN W0.heap.size W3 (.slice y.sa y.sl y.sc) y.sl y.co) := (OwnE.rk oy (WK.of_below b3 : RK p W2 W3) hRR.out.lt).weaken hK'.out.size
      have HY9 := hid hy
      clear oy hy b3
      generalize hzc : y.cs = ZC at *
      have EZ := hid hzc
      clear hzc
      have hsz : (Try.prog.info? 138).map (·.size) = some ZC.toArray.size := by rw [List.size_toArray, HK.out]; exact sizeLease
      have LD := CX.out.loadAt Try.underlying138 rfl hsz
      by_cases hN : k < N
      · have e0 : E1 = 0 := by have := NY.out k (by omega) hN; rw [ES.out] at this; exact this
        subst e0
        have hMJ := ST.out k (.agg ZC.toArray) W0 W3 hJ'.out hN ⟨⟨y, by rw [EZ.out], by rw [PV.out, EV.out]; exact HY9.out, OY.out⟩, by rw [PS.out, ES.out]; exact R2.out, K2.out⟩
        obtain ⟨fn, tmps, assign, body, hy, hR⟩ := YY.out k (.agg ZC.toArray) W3 hMJ hN
        have HR := hid hR
        clear hMJ hR
        gi_wp2_with (first | refine wpListIn_store_new rfl 138 (.tmp 4) (.tmp 10) rfl ZC.toArray rfl rfl 138 _ hsz (by show 8 = ZC.toArray.size; rw [List.size_toArray, HK.out]) HO1.out W3 HW3.out ?_ | refine wpListIn_load_at 138 rfl (.tmp 4) rfl _ _ rfl _ LD ?_)
        refine HR.out.mono ?_
        rintro e W4 ⟨rfl, J4⟩
        have HJ4 := hid J4
        have P4 := hid (RR.out _ W4 J4)
        clear J4
        gi_wp2
        go_roundw
        case rel => exact ⟨k + 1, by omega, by go_num, W4, HJ4.out, RK.refl _ _, by have := P4.out.2.2.1; rw [PS.out] at this; exact this⟩
        case measure => simp [intOf]; omega
      · have ek : N = k := by omega
        subst ek
        have e0 : E1 ≠ 0 := by have := NO.out (by omega); rw [ES.out] at this; exact this
        have te : (E1 != 0) = true := by simpa using e0
        have HF := FI.out W0 W3 hJ'.out ⟨by rw [FF.out, if_pos hlt, ES.out]; exact R2.out, K2.out⟩
        have HF' := hid HF
        clear HF e0
        gi_wp2_with (first | refine wpListIn_store_new rfl 138 (.tmp 4) (.tmp 10) rfl ZC.toArray rfl rfl 138 _ hsz (by show 8 = ZC.toArray.size; rw [List.size_toArray, HK.out]) HO1.out W3 HW3.out ?_ | refine wpListIn_load_at 138 rfl (.tmp 4) rfl _ _ rfl _ LD ?_)
        refine ⟨fun f hf => (by cases hf), ?_⟩
        gi_wp2
        refine bodyPost_ret (results_none rfl _ _ _) rfl ?_
        exact ⟨⟨_, rfl⟩, HF'.out⟩
    · have kc : k = C := by omega
      have kn : N = k := by omega
      subst kn
      have tb : decide ((N : Int) < (C : Int)) = false := by simp; omega
      obtain ⟨W0', hJ2, hK2, hR2⟩ : ∃ W0, J N W0 ∧ RK p W0 wr ∧ RdC wr p (.slice a n c) (lsS (rdL l) A0 E0 N).1 (lsS (rdL l) A0 E0 N).2 := ⟨W0, hJ'.out, hK'.out, hRR.out⟩
      have HF := FI.out W0' wr hJ2 ⟨by rw [FF.out, if_neg hlt]; exact hR2, hK2⟩
      have HF' := hid HF
      clear HF hJ2 hK2 hR2 C1
      gi_wp2
      go_end0
      exact ⟨⟨_, rfl⟩, HF'.out⟩
end Go.Proofs.Ythkbddnkcljjpaa

namespace Go.Proofs.Ythkbddnkcljjpaa
open Go.RowKit Go.Deep Go.Maps
set_option linter.unusedVariables false
set_option linter.unusedSimpArgs false
attribute [local go_sem] Oper.semAt_some
attribute [local go_sem ↓] appF_eq

set_option maxRecDepth 100000 in
theorem infT : (Try.prog.info? 30).map (fun i => (i.zero, i.size, i.bytes)) = some (some (.agg #[.int .i64 0, .int .i64 0, .int .i64 0, .int .i64 0, .int .i64 0, .slice none 0 0, .int .i64 0]), 7, 72) := by kernel_rfl
/-- What stands while the things of a list are gathered: k of them. -/
structure GaT (ib S p : Nat) (a : Option Addr) (n c : Nat) (l : List Int) (A E : Int) (w : World) (k : Nat) (pl : Int × Int) (W : World) : Prop where
  row : ∃ v, W.cell? ⟨ib, 0, none⟩ = some v ∧ W.frozen? ⟨ib, 0, none⟩ = false ∧ ∃ ys, OwnE 30 7 T7.cs S W v k ys ∧ (∀ j (g : j < ys.length), TaSame (liV (rdT l) l A E j) ys[j]) ∧ ∀ y ∈ ys, OwnN S W (.slice y.sa y.sl y.sc) y.sl y.tk
  cg : W.cell? ⟨ib + 1, 0, none⟩ = some (.pointer (some ⟨p, 0, none⟩))
  cn : W.cell? ⟨ib + 2, 0, none⟩ = some (.func (.func 99) #[.pointer (some ⟨p, 0, none⟩)] #[])
  rd : RdC W p (.slice a n c) pl.1 pl.2
  rk : RK p w W
  sz : S ≤ W.heap.size
theorem GaT.own {ib S p k : Nat} {a : Option Addr} {n c : Nat} {l : List Int} {X E : Int} {pl : Int × Int} {w A B : World} {row : Option Nat} (h : GaT ib S p a n c l X E w k pl A) (hg : A.grownBy B row) (hr : ∀ r, row = some r → S ≤ r ∧ ∃ o : Obj, A.heap[r]? = some o ∧ o.isCells = false) (hS : w.heap.size ≤ S) : GaT ib S p a n c l X E w k pl B := by
  have hr' : ∀ r, row = some r → ∃ o : Obj, A.heap[r]? = some o ∧ o.isCells = false := fun r e => (hr r e).2
  obtain ⟨v, h1, h2, ys, h3, h6, h7⟩ := h.row
  exact ⟨⟨v, cell_kept h1 hg hr', (frozen_kept h1 hg hr').trans h2, ys, h3.own hg hr', h6, fun y hy => (h7 y hy).own hg hr'⟩, cell_kept h.cg hg hr', cell_kept h.cn hg hr', h.rd.own hg hr', h.rk.own hg (fun r e => (hr r e).1) hS, Nat.le_trans h.sz hg.size⟩
theorem GaT.turn {ib S p k : Nat} {a : Option Addr} {n c : Nat} {l : List Int} {X E : Int} {pl pl' : Int × Int} {w A B : World} (h : GaT ib S p a n c l X E w k pl A) (T : RK p A B) (G : RdC B p (.slice a n c) pl'.1 pl'.2) (h1 : p < ib) (hi : ib ≤ S) : GaT ib S p a n c l X E w k pl' B := by
  obtain ⟨v, h3, h4, ys, h5, h6, h7⟩ := h.row
  exact ⟨⟨v, T.keep h3 (by show ib ≠ p; omega), (T.froz h3 (by show ib ≠ p; omega)).trans h4, ys, h5.rk T (by omega), h6, fun y hy => (h7 y hy).rk T (by omega)⟩, T.keep h.cg (by show ib + 1 ≠ p; omega), T.keep h.cn (by show ib + 2 ≠ p; omega), G, h.rk.trans T, Nat.le_trans h.sz T.size⟩

set_option maxRecDepth 100000 in
set_option maxHeartbeats 4000000 in
theorem listT_in (p : Nat) (a : Option Addr) (n c : Nat) (l : List Int) (A E : Int) (w : World) (h : RdC w p (.slice a n c) A E) (hl : HoldsB w a n c l) (h0 : 0 ≤ A) (h1 : A ≤ n) (hne : ∀ b o, a = some ⟨b, o, none⟩ → 0 < n → b ≠ p) :
    CallsIn Fence.wide 5 Try.prog 98 #[.pointer (some ⟨p, 0, none⟩), .func (.func 99) #[.pointer (some ⟨p, 0, none⟩)] #[]] w fun e w' => ∃ v ys, e = .returned v ∧ OwnE 30 7 T7.cs w.heap.size w' v (liC (rdT l) l A E) ys ∧ (∀ j (g : j < ys.length), TaSame (liV (rdT l) l A E j) ys[j]) ∧ (∀ y ∈ ys, OwnN w.heap.size w' (.slice y.sa y.sl y.sc) y.sl y.tk) ∧ RdC w' p (.slice a n c) (liF (rdT l) l A E).1 (liF (rdT l) l A E).2 ∧ RK p w w' := by
  obtain ⟨i0, hi, hz0, hz1, hz2⟩ := info_parts infT
  have HR := hid h
  have HL := hid hl
  have plt := h.lt
  have hlen := hl.1
  have hnm := hl.2.1
  have hbb := hl.2.2.2.2.1
  have LC := (liC_le (rdT l) l A E hbb).2
  clear h hl
  refine callsIn_of_wp_marks Try.func98 rfl trivial ?_ rfl
  simp only [Try.ntmps98, List.size_toArray, List.length_cons, List.length_nil, Nat.reduceAdd, Nat.reduceSub, Array.replicate_succ, Array.replicate_zero, List.push_toArray, List.append_toArray, List.nil_append, List.cons_append]
  gi_wp2_with fail
  refine ⟨trivial, ?_⟩
  refine (callsIn_wide.2 (elemsT_mk p _)).mono ?_
  rintro e w' ⟨rfl, t1, t2, rfl⟩
  gi_wp2_with fail
  have hsz : (((w.alloc (.cells #[.slice none 0 0] 51)).alloc (.cells #[.pointer (some ⟨p, 0, none⟩)] t1)).alloc (.cells #[.func (.func 99) #[.pointer (some ⟨p, 0, none⟩)] #[]] t2)).heap.size = w.heap.size + 3 := by simp
  have hB0 : Below w.heap.size w (((w.alloc (.cells #[.slice none 0 0] 51)).alloc (.cells #[.pointer (some ⟨p, 0, none⟩)] t1)).alloc (.cells #[.func (.func 99) #[.pointer (some ⟨p, 0, none⟩)] #[]] t2)) := (by repeat (first | exact Below.refl _ _ | assumption | refine Below.alloc ?_ (by simp <;> omega) _ | refine Below.setCell ?_ (by simp <;> omega) _ | refine Below.drew ?_ | refine below_drewN ?_ _))
  have e0 : (((w.alloc (.cells #[.slice none 0 0] 51)).alloc (.cells #[.pointer (some ⟨p, 0, none⟩)] t1)).alloc (.cells #[.func (.func 99) #[.pointer (some ⟨p, 0, none⟩)] #[]] t2)).cell? ⟨w.heap.size, 0, none⟩ = some (.slice none 0 0) := by simp [go_sem]
  have g0 : (((w.alloc (.cells #[.slice none 0 0] 51)).alloc (.cells #[.pointer (some ⟨p, 0, none⟩)] t1)).alloc (.cells #[.func (.func 99) #[.pointer (some ⟨p, 0, none⟩)] #[]] t2)).frozen? ⟨w.heap.size, 0, none⟩ = false := by simp [go_sem]
  have e1 : (((w.alloc (.cells #[.slice none 0 0] 51)).alloc (.cells #[.pointer (some ⟨p, 0, none⟩)] t1)).alloc (.cells #[.func (.func 99) #[.pointer (some ⟨p, 0, none⟩)] #[]] t2)).cell? ⟨w.heap.size + 1, 0, none⟩ = some (.pointer (some ⟨p, 0, none⟩)) := by simp [go_sem]
  have e2 : (((w.alloc (.cells #[.slice none 0 0] 51)).alloc (.cells #[.pointer (some ⟨p, 0, none⟩)] t1)).alloc (.cells #[.func (.func 99) #[.pointer (some ⟨p, 0, none⟩)] #[]] t2)).cell? ⟨w.heap.size + 2, 0, none⟩ = some (.func (.func 99) #[.pointer (some ⟨p, 0, none⟩)] #[]) := by simp [go_sem]
  generalize hW0 : (((w.alloc (.cells #[.slice none 0 0] 51)).alloc (.cells #[.pointer (some ⟨p, 0, none⟩)] t1)).alloc (.cells #[.func (.func 99) #[.pointer (some ⟨p, 0, none⟩)] #[]] t2)) = W0 at *
  have A0 : GaT w.heap.size (w.heap.size + 3) p a n c l A E w 0 (lsP (rdT l) l A E 0) W0 := ⟨⟨_, e0, g0, [], OwnE.nil _ _ _ _ _, (fun j g => absurd g (by simp)), (fun y hy => by cases hy)⟩, e1, e2, HR.out.below hB0, WK.of_below hB0, by omega⟩
  refine wpIn_rangeFunc_z rfl (by omega) (gf := 128) (lb := #[.pointer (some ⟨w.heap.size + 1, 0, none⟩), .pointer (some ⟨w.heap.size + 1 + 1, 0, none⟩)]) rfl trivial (enters_of Try.func128 (by kernel_rfl) rfl)
    (elemsT_turns 4 (by omega) p (w.heap.size + 1) (w.heap.size + 1 + 1) a n c l A E W0 h0 h1 hlen hnm hbb hne (by omega) (by omega)) rfl
    (fun k W => GaT w.heap.size (w.heap.size + 3) p a n c l A E w k (lsP (rdT l) l A E k) W) (fun k x W => (∃ y : T7, x = .agg y.cs.toArray ∧ TaSame (liV (rdT l) l A E k) y ∧ OwnN (w.heap.size + 3) W (.slice y.sa y.sl y.sc) y.sl y.tk) ∧ GaT w.heap.size (w.heap.size + 3) p a n c l A E w k (lsP (rdT l) l A E (k + 1)) W) (fun k x b W => (∃ y : T7, Blk W b 30 y.cs.toArray ∧ TaSame (liV (rdT l) l A E k) y ∧ OwnN (w.heap.size + 3) W (.slice y.sa y.sl y.sc) y.sl y.tk) ∧ GaT w.heap.size (w.heap.size + 3) p a n c l A E w k (lsP (rdT l) l A E (k + 1)) W) (fun W => GaT w.heap.size (w.heap.size + 3) p a n c l A E w (liC (rdT l) l A E) (liF (rdT l) l A E) W)
    (fun k A B row hs hgr hr => hs.own hgr (fun r' e => by have := hr r' e; rw [hsz] at this; exact this) (by omega))
    (fun x k A B row hs hgr hr => ⟨by obtain ⟨y, q1, q2, q3⟩ := hs.1; exact ⟨y, q1, q2, q3.own hgr (fun r' e => (hr r' e).2)⟩, hs.2.own hgr (fun r' e => by have := hr r' e; rw [hsz] at this; exact this) (by omega)⟩)
    (fun x b k A B row hs hgr hr => ⟨by obtain ⟨y, q1, q2, q3⟩ := hs.1; exact ⟨y, q1.own hgr (fun r' e => (hr r' e).2), q2, q3.own hgr (fun r' e => (hr r' e).2)⟩, hs.2.own hgr (fun r' e => by have := hr r' e; rw [hsz] at this; exact this) (by omega)⟩)
    (fun k A B row hs hgr hr => hs.own hgr (fun r' e => by have := hr r' e; rw [hsz] at this; exact this) (by omega))
    A0 (fun k A hs => ⟨hs.cg, hs.cn, hs.rd, hs.rk.holds HL.out hne⟩)
    (fun k x A B hs hk hst => ⟨by obtain ⟨y, q1, q2, q3⟩ := hst.1; exact ⟨y, q1, q2, q3.weaken hs.sz⟩, hs.turn hst.2.2 hst.2.1 plt (by omega)⟩)
    (fun A B hs hst => hs.turn hst.2 hst.1 plt (by omega))
    (fun k x A B i o hs hst hi ho hc => (hst.2.2.block i (Array.getElem?_eq_some_iff.1 ho).1 (by omega) (by intro e; cases e)).trans ho)
    (fun A B i o hs hst hi ho hc => (hst.2.block i (Array.getElem?_eq_some_iff.1 ho).1 (by omega) (by intro e; cases e)).trans ho)
    ?a1 ?assign ?body ?done
  case assign =>
    intro lp k x W K hI hk hK
    obtain ⟨⟨y, hx, hy, oy⟩, hG⟩ := hI
    have HX := hid hx
    have HY9 := hid hy
    have OYA : Hid (∀ (t : Nat) (cs : Array Value), OwnN (w.heap.size + 3) (W.alloc (.cells cs t)) (.slice y.sa y.sl y.sc) y.sl y.tk) := fun t cs => OwnE.rk oy (WK.of_below ((Below.refl W.heap.size W).alloc (Nat.le_refl _) (.cells cs t)) : RK p W _) (by omega)
    have HO1 := hid (all_oneCell_toArray (T7.one y))
    have HKK : Hid (y.cs.length = 7) := rfl
    have GR : Hid (∀ (t : Nat) (cs : Array Value), GaT w.heap.size (w.heap.size + 3) p a n c l A E w k (lsP (rdT l) l A E (k + 1)) (W.alloc (.cells cs t))) := fun t cs => by
      obtain ⟨⟨v, u1, u2, ys, u3, u9, u10⟩, u4, u5, u6, u7, u8⟩ := hG
      have b := (Below.refl W.heap.size W).alloc (Nat.le_refl _) (.cells cs t)
      exact ⟨⟨v, keepc b u1, keepf b u1 u2, ys, OwnE.rk u3 (WK.of_below b : RK p W _) (by omega), u9, fun y hy => OwnE.rk (u10 y hy) (WK.of_below b : RK p W _) (by omega)⟩, keepc b u4, keepc b u5, u6.below b, u7.bel b, Nat.le_trans u8 b.size⟩
    have HKE := hid hK
    clear hx hG hK hy oy
    obtain ⟨W3, hW3⟩ : ∃ W3, W.alloc (.cells y.cs.toArray 30) = W3 := ⟨_, rfl⟩
    have CX := hid (show Blk W3 W.heap.size 30 y.cs.toArray by rw [← hW3]; exact Blk.alloc _ _ _)
    have HW3 := hid hW3
    have G3 : Hid (GaT w.heap.size (w.heap.size + 3) p a n c l A E w k (lsP (rdT l) l A E (k + 1)) W3) := by unfold Hid; rw [← hW3]; exact GR.out _ _
    have KO : Hid (KeepsOthers W W3) := by
      unfold Hid; rw [← hW3]
      exact ⟨by simp, fun k o hk _ => (Below.heap_alloc W _ _ (Array.getElem?_eq_some_iff.1 hk).1).trans hk⟩
    have OY : Hid (OwnN (w.heap.size + 3) W3 (.slice y.sa y.sl y.sc) y.sl y.tk) := by unfold Hid; rw [← hW3]; exact OYA.out _ _
    clear hW3 GR OYA
    have hszz : (Try.prog.info? 30).map (·.size) = some y.cs.toArray.size := by rw [List.size_toArray, HKK.out]; exact sizeTask
    generalize hzc : y.cs = ZC at *
    have EZ := hid hzc
    clear hzc
    gi_wp2_with (refine wpListIn_store_new rfl 30 (.tmp 6) (.tmp 10) rfl ZC.toArray rfl (by show x = _; exact HX.out) 30 _ hszz (by show 7 = ZC.toArray.size; rw [List.size_toArray, HKK.out]) HO1.out W3 HW3.out ?_)
    have HE := HKE.out W.heap.size W3 ⟨⟨y, by rw [EZ.out]; exact CX.out, HY9.out, OY.out⟩, G3.out⟩ (KO.out.from _)
    clear HKE HX HO1 HKK CX HW3 G3 KO hszz
    generalize W.heap.size = B6 at *
    exact HE
  case body =>
    intro lp k x b6 W hI hk
    obtain ⟨⟨y, hbk, hy, oy⟩, ⟨v, u1, u2, ys, hrow, hsm, how⟩, uc, un, ur, uk, us⟩ := hI
    have LN := hid hrow.len
    obtain ⟨f0, f1, f2, f3, f4, ya, yl, yc, f5, yt⟩ := y
    have LD := Blk.loadAt hbk Try.underlying30 rfl sizeTask
    replace LD : (Instr.loadAt 30 (.pointer (some ⟨b6, 0, none⟩))).run Try.prog W = .ok (.agg #[.int .i64 f0, .int .i64 f1, .int .i64 f2, .int .i64 f3, .int .i64 f4, .slice ya yl yc, .int .i64 f5]) W := LD
    obtain ⟨v', w1, hrun, hown', hgr, hnil, hplace⟩ := run_append_own_at (P := Try.prog) (W.alloc (.cells #[.int .i64 f0, .int .i64 f1, .int .i64 f2, .int .i64 f3, .int .i64 f4, .slice ya yl yc, .int .i64 f5] 30)) (w.heap.size + 3) 51 51 30 i0 (.agg #[.int .i64 0, .int .i64 0, .int .i64 0, .int .i64 0, .int .i64 0, .slice none 0 0, .int .i64 0]) 7 72 Try.underlying51 hi hz0 hz1 hz2 rfl (by decide) v k _ (hrow.2.alloc _) ⟨W.heap.size, 0, none⟩ 1 1 [.int .i64 f0, .int .i64 f1, .int .i64 f2, .int .i64 f3, .int .i64 f4, .slice ya yl yc, .int .i64 f5] rfl (fun j u hj => by have := (Blk.alloc W #[.int .i64 f0, .int .i64 f1, .int .i64 f2, .int .i64 f3, .int .i64 f4, .slice ya yl yc, .int .i64 f5] (30)).range j u hj; rw [Nat.zero_add] at this; rw [addr_add0]; exact this) (by simp [Value.oneCell']) (by unfold maxLen; omega) (by omega) (by simp; omega)
    obtain ⟨g', cap', rfl⟩ := ownsRow_succ hown'
    rw [appF_eq] at hrun
    have hrowlt : ∀ g, v.ownBlock = some g → w.heap.size + 3 ≤ g := fun g hg => (hrow.lt g hg).1
    have hge : w.heap.size + 3 ≤ g' := (hown'.lt g' rfl).1
    have hblk : ∀ b, b < w.heap.size + 3 → w1.heap[b]? = W.heap[b]? := fun b hb => by
      rw [hgr.block b (by simp; omega) (fun e => by have := hrowlt _ e.symm; omega)]
      exact Below.heap_alloc _ _ _ (by show b < W.heap.size; omega)
    have x1 : w1.cell? ⟨w.heap.size, 0, none⟩ = some v := (World.cell?_of_block (w := W) (hblk _ (by simp))).trans u1
    have x2 : w1.frozen? ⟨w.heap.size, 0, none⟩ = false := (World.frozen?_of_block (w := W) (hblk _ (by simp))).trans u2
    have hKO : Hid (KeepsOthers W w1) := by
      have h1 : KeepsOthers W (W.alloc (.cells #[.int .i64 f0, .int .i64 f1, .int .i64 f2, .int .i64 f3, .int .i64 f4, .slice ya yl yc, .int .i64 f5] 30)) := ⟨by simp, fun k o hk _ => (Below.heap_alloc W _ _ (Array.getElem?_eq_some_iff.1 hk).1).trans hk⟩
      exact h1.trans (keepsOthers_grown hgr (ownsRow_cells (hrow.2.alloc _)))
    have hOb : Hid (∀ b, b < w.heap.size + 3 → b ≠ w.heap.size → (w1.setCell ⟨w.heap.size, 0, none⟩ (.slice (some ⟨g', 0, none⟩) (k + 1) cap')).heap[b]? = W.heap[b]?) := fun b hb hne => (Below.heap_setCell _ _ _ _ hne).trans (hblk b hb)
    have HO : Hid (OwnE 30 7 T7.cs (w.heap.size + 3) (w1.setCell ⟨w.heap.size, 0, none⟩ (.slice (some ⟨g', 0, none⟩) (k + 1) cap')) (.slice (some ⟨g', 0, none⟩) (k + 1) cap') (k + 1) (ys ++ [⟨f0, f1, f2, f3, f4, ya, yl, yc, f5, yt⟩])) := by
      refine ⟨by rw [List.length_append, LN.out]; rfl, ?_⟩
      have h1 : (ys ++ [(⟨f0, f1, f2, f3, f4, ya, yl, yc, f5, yt⟩ : T7)]).flatMap T7.cs = ys.flatMap T7.cs ++ [.int .i64 f0, .int .i64 f1, .int .i64 f2, .int .i64 f3, .int .i64 f4, .slice ya yl yc, .int .i64 f5] := by rw [List.flatMap_append]; rfl
      rw [h1]
      exact hown'.kept (grownBy_setCell' w1 w.heap.size _) (.inr (by simp [Value.ownBlock]; omega))
    have OAL := hid (fun (vv : Value) (nn : Nat) (ll : List Int) (o : OwnN (w.heap.size + 3) W vv nn ll) => ((OwnE.rk o (WK.of_below ((Below.refl W.heap.size W).alloc (Nat.le_refl _) (.cells #[.int .i64 f0, .int .i64 f1, .int .i64 f2, .int .i64 f3, .int .i64 f4, .slice ya yl yc, .int .i64 f5] 30)) : RK p W _) (by omega)).grownN hgr (own_ne (OwnE.rk o (WK.of_below ((Below.refl W.heap.size W).alloc (Nat.le_refl _) (.cells #[.int .i64 f0, .int .i64 f1, .int .i64 f2, .int .i64 f3, .int .i64 f4, .slice ya yl yc, .int .i64 f5] 30)) : RK p W _) (by omega)) (OwnE.rk hrow (WK.of_below ((Below.refl W.heap.size W).alloc (Nat.le_refl _) (.cells #[.int .i64 f0, .int .i64 f1, .int .i64 f2, .int .i64 f3, .int .i64 f4, .slice ya yl yc, .int .i64 f5] 30)) : RK p W _) (by omega)) (by decide))).cellN ⟨w.heap.size, 0, none⟩ (.slice (some ⟨g', 0, none⟩) (k + 1) cap') (fun g e => by have := (o.lt g e).1; show g ≠ w.heap.size; omega))
    have HSM : Hid (∀ j (g : j < (ys ++ [(⟨f0, f1, f2, f3, f4, ya, yl, yc, f5, yt⟩ : T7)]).length), TaSame (liV (rdT l) l A E j) (ys ++ [(⟨f0, f1, f2, f3, f4, ya, yl, yc, f5, yt⟩ : T7)])[j]) := fun j g => by
      by_cases hj : j < ys.length
      · rw [List.getElem_append_left hj]; exact hsm j hj
      · have e : j = k := by rw [List.length_append] at g; simp at g; have := LN.out; omega
        subst e
        rw [List.getElem_append_right (by omega)]
        simp only [LN.out, Nat.sub_self, List.getElem_cons_zero]
        exact hy
    have HOW : Hid (∀ y ∈ ys ++ [(⟨f0, f1, f2, f3, f4, ya, yl, yc, f5, yt⟩ : T7)], OwnN (w.heap.size + 3) (w1.setCell ⟨w.heap.size, 0, none⟩ (.slice (some ⟨g', 0, none⟩) (k + 1) cap')) (.slice y.sa y.sl y.sc) y.sl y.tk) := fun y hy => by
      rcases List.mem_append.1 hy with hy | hy
      · exact OAL.out _ _ _ (how y hy)
      · simp only [List.mem_singleton] at hy
        subst hy
        exact OAL.out _ _ _ oy
    have HG1 : Hid (GaT w.heap.size (w.heap.size + 3) p a n c l A E w (k + 1) (lsP (rdT l) l A E (k + 1)) (w1.setCell ⟨w.heap.size, 0, none⟩ (.slice (some ⟨g', 0, none⟩) (k + 1) cap'))) := by
      have hs1 : W.heap.size ≤ w1.heap.size := hKO.out.size
      refine ⟨⟨_, World.cell?_setCell_same' _ _ _ (by rw [x1]; rfl), by rw [World.frozen?_setCell]; exact x2, _, HO.out, HSM.out, HOW.out⟩, ?_, ?_, ?_, ?_, ?_⟩
      · exact (World.cell?_of_block (w := W) (hOb.out _ (by simp) (by simp))).trans uc
      · exact (World.cell?_of_block (w := W) (hOb.out _ (by simp) (by simp))).trans un
      · exact ur.same (hOb.out _ (by omega) (by omega))
      · refine ⟨?_, ?_, ?_, ?_, fun b hb h1 h2 => (hOb.out b (by omega) (by omega)).trans (uk.block b hb h1 h2), fun _ e => by cases e⟩
        · exact hgr.os.trans uk.os
        · exact hgr.tape.trans uk.tape
        · exact hgr.output.trans uk.output
        · have := uk.size; simp [World.setCell]; omega
      · simp [World.setCell]; omega
    have e1a := keepc ((Below.refl _ W).alloc (Nat.le_refl _) (.cells #[.int .i64 f0, .int .i64 f1, .int .i64 f2, .int .i64 f3, .int .i64 f4, .slice ya yl yc, .int .i64 f5] 30)) u1
    clear OAL HSM HOW hsm how hy oy hgr hown' hrow hnil hblk hrowlt hplace uc un ur uk us hOb HO hbk
    gi_wp2_with (refine wpListIn_load_at 30 rfl (.tmp 6) rfl _ _ rfl _ LD ?_)
    exact ⟨(hKO.out.trans (KeepsOthers.setCell _ _ _)).from _, HG1.out⟩
  case done =>
    rintro D W hD hI hK
    obtain ⟨⟨v, u1, u2, ys, hrow, hsm, how⟩, uc, un, ur, uk, us⟩ := hI
    gi_wp2
    refine ⟨by simp, .inl ⟨_, _, rfl, run_takeDeferred hK, ?_⟩⟩
    have hgO := grownBy_putObj' W D (.deferred none)
    have hrO : ∀ r, some D = some r → ∃ o : Obj, W.heap[r]? = some o ∧ o.isCells = false := fun r e => by cases e; exact ⟨_, hK, rfl⟩
    refine ⟨_, results_tmp rfl _ _ _, v, ys, rfl, (hrow.own hgO hrO).weaken (b' := w.heap.size) (by omega), hsm, (fun y hy => ((how y hy).own hgO hrO).weaken (by omega)), ur.own hgO hrO, uk.own (S := w.heap.size + 3) hgO (fun r e => by cases e; omega) (by omega)⟩

theorem listT_any (p : Nat) (a : Option Addr) (n c : Nat) (l : List Int) (A E : Int) (w : World) (h : RdC w p (.slice a n c) A E) (hl : HoldsB w a n c l) (h0 : 0 ≤ A) (h1 : A ≤ n) (hne : ∀ b o, a = some ⟨b, o, none⟩ → 0 < n → b ≠ p) :
    Calls Try.prog 98 #[.pointer (some ⟨p, 0, none⟩), .func (.func 99) #[.pointer (some ⟨p, 0, none⟩)] #[]] w fun e w' => ∃ v ys, e = .returned v ∧ OwnE 30 7 T7.cs w.heap.size w' v (liC (rdT l) l A E) ys ∧ (∀ j (g : j < ys.length), TaSame (liV (rdT l) l A E j) ys[j]) ∧ (∀ y ∈ ys, OwnN w.heap.size w' (.slice y.sa y.sl y.sc) y.sl y.tk) ∧ RdC w' p (.slice a n c) (liF (rdT l) l A E).1 (liF (rdT l) l A E).2 ∧ RK p w w' := callsIn_wide.1 (listT_in p a n c l A E w h hl h0 h1 hne)

set_option maxRecDepth 100000 in
theorem infL : (Try.prog.info? 138).map (fun i => (i.zero, i.size, i.bytes)) = some (some (.agg #[.int .i64 0, .int .i64 0, .int .i64 0, .slice none 0 0, .int .i64 0, .int .i64 0, .int .i64 0, .bool false]), 8, 80) := by kernel_rfl
/-- What stands while the things of a list are gathered: k of them. -/
structure GaL (ib S p : Nat) (a : Option Addr) (n c : Nat) (l : List Int) (A E : Int) (w : World) (k : Nat) (pl : Int × Int) (W : World) : Prop where
  row : ∃ v, W.cell? ⟨ib, 0, none⟩ = some v ∧ W.frozen? ⟨ib, 0, none⟩ = false ∧ ∃ ys, OwnE 138 8 Le.cs S W v k ys ∧ (∀ j (g : j < ys.length), LeSame (liV (rdL l) l A E j) ys[j]) ∧ ∀ y ∈ ys, OwnN S W (.slice y.sa y.sl y.sc) y.sl y.co
  cg : W.cell? ⟨ib + 1, 0, none⟩ = some (.pointer (some ⟨p, 0, none⟩))
  cn : W.cell? ⟨ib + 2, 0, none⟩ = some (.func (.func 92) #[.pointer (some ⟨p, 0, none⟩)] #[])
  rd : RdC W p (.slice a n c) pl.1 pl.2
  rk : RK p w W
  sz : S ≤ W.heap.size
theorem GaL.own {ib S p k : Nat} {a : Option Addr} {n c : Nat} {l : List Int} {X E : Int} {pl : Int × Int} {w A B : World} {row : Option Nat} (h : GaL ib S p a n c l X E w k pl A) (hg : A.grownBy B row) (hr : ∀ r, row = some r → S ≤ r ∧ ∃ o : Obj, A.heap[r]? = some o ∧ o.isCells = false) (hS : w.heap.size ≤ S) : GaL ib S p a n c l X E w k pl B := by
  have hr' : ∀ r, row = some r → ∃ o : Obj, A.heap[r]? = some o ∧ o.isCells = false := fun r e => (hr r e).2
  obtain ⟨v, h1, h2, ys, h3, h6, h7⟩ := h.row
  exact ⟨⟨v, cell_kept h1 hg hr', (frozen_kept h1 hg hr').trans h2, ys, h3.own hg hr', h6, fun y hy => (h7 y hy).own hg hr'⟩, cell_kept h.cg hg hr', cell_kept h.cn hg hr', h.rd.own hg hr', h.rk.own hg (fun r e => (hr r e).1) hS, Nat.le_trans h.sz hg.size⟩
theorem GaL.turn {ib S p k : Nat} {a : Option Addr} {n c : Nat} {l : List Int} {X E : Int} {pl pl' : Int × Int} {w A B : World} (h : GaL ib S p a n c l X E w k pl A) (T : RK p A B) (G : RdC B p (.slice a n c) pl'.1 pl'.2) (h1 : p < ib) (hi : ib ≤ S) : GaL ib S p a n c l X E w k pl' B := by
  obtain ⟨v, h3, h4, ys, h5, h6, h7⟩ := h.row
  exact ⟨⟨v, T.keep h3 (by show ib ≠ p; omega), (T.froz h3 (by show ib ≠ p; omega)).trans h4, ys, h5.rk T (by omega), h6, fun y hy => (h7 y hy).rk T (by omega)⟩, T.keep h.cg (by show ib + 1 ≠ p; omega), T.keep h.cn (by show ib + 2 ≠ p; omega), G, h.rk.trans T, Nat.le_trans h.sz T.size⟩

set_option maxRecDepth 100000 in
set_option maxHeartbeats 4000000 in
theorem listL_in (p : Nat) (a : Option Addr) (n c : Nat) (l : List Int) (A E : Int) (w : World) (h : RdC w p (.slice a n c) A E) (hl : HoldsB w a n c l) (h0 : 0 ≤ A) (h1 : A ≤ n) (hne : ∀ b o, a = some ⟨b, o, none⟩ → 0 < n → b ≠ p) :
    CallsIn Fence.wide 5 Try.prog 91 #[.pointer (some ⟨p, 0, none⟩), .func (.func 92) #[.pointer (some ⟨p, 0, none⟩)] #[]] w fun e w' => ∃ v ys, e = .returned v ∧ OwnE 138 8 Le.cs w.heap.size w' v (liC (rdL l) l A E) ys ∧ (∀ j (g : j < ys.length), LeSame (liV (rdL l) l A E j) ys[j]) ∧ (∀ y ∈ ys, OwnN w.heap.size w' (.slice y.sa y.sl y.sc) y.sl y.co) ∧ RdC w' p (.slice a n c) (liF (rdL l) l A E).1 (liF (rdL l) l A E).2 ∧ RK p w w' := by
  obtain ⟨i0, hi, hz0, hz1, hz2⟩ := info_parts infL
  have HR := hid h
  have HL := hid hl
  have plt := h.lt
  have hlen := hl.1
  have hnm := hl.2.1
  have hbb := hl.2.2.2.2.1
  have LC := (liC_le (rdL l) l A E hbb).2
  clear h hl
  refine callsIn_of_wp_marks Try.func91 rfl trivial ?_ rfl
  simp only [Try.ntmps91, List.size_toArray, List.length_cons, List.length_nil, Nat.reduceAdd, Nat.reduceSub, Array.replicate_succ, Array.replicate_zero, List.push_toArray, List.append_toArray, List.nil_append, List.cons_append]
  gi_wp2_with fail
  refine ⟨trivial, ?_⟩
  refine (callsIn_wide.2 (elemsL_mk p _)).mono ?_
  rintro e w' ⟨rfl, t1, t2, rfl⟩
  gi_wp2_with fail
  have hsz : (((w.alloc (.cells #[.slice none 0 0] 44)).alloc (.cells #[.pointer (some ⟨p, 0, none⟩)] t1)).alloc (.cells #[.func (.func 92) #[.pointer (some ⟨p, 0, none⟩)] #[]] t2)).heap.size = w.heap.size + 3 := by simp
  have hB0 : Below w.heap.size w (((w.alloc (.cells #[.slice none 0 0] 44)).alloc (.cells #[.pointer (some ⟨p, 0, none⟩)] t1)).alloc (.cells #[.func (.func 92) #[.pointer (some ⟨p, 0, none⟩)] #[]] t2)) := (by repeat (first | exact Below.refl _ _ | assumption | refine Below.alloc ?_ (by simp <;> omega) _ | refine Below.setCell ?_ (by simp <;> omega) _ | refine Below.drew ?_ | refine below_drewN ?_ _))
  have e0 : (((w.alloc (.cells #[.slice none 0 0] 44)).alloc (.cells #[.pointer (some ⟨p, 0, none⟩)] t1)).alloc (.cells #[.func (.func 92) #[.pointer (some ⟨p, 0, none⟩)] #[]] t2)).cell? ⟨w.heap.size, 0, none⟩ = some (.slice none 0 0) := by simp [go_sem]
  have g0 : (((w.alloc (.cells #[.slice none 0 0] 44)).alloc (.cells #[.pointer (some ⟨p, 0, none⟩)] t1)).alloc (.cells #[.func (.func 92) #[.pointer (some ⟨p, 0, none⟩)] #[]] t2)).frozen? ⟨w.heap.size, 0, none⟩ = false := by simp [go_sem]
  have e1 : (((w.alloc (.cells #[.slice none 0 0] 44)).alloc (.cells #[.pointer (some ⟨p, 0, none⟩)] t1)).alloc (.cells #[.func (.func 92) #[.pointer (some ⟨p, 0, none⟩)] #[]] t2)).cell? ⟨w.heap.size + 1, 0, none⟩ = some (.pointer (some ⟨p, 0, none⟩)) := by simp [go_sem]
  have e2 : (((w.alloc (.cells #[.slice none 0 0] 44)).alloc (.cells #[.pointer (some ⟨p, 0, none⟩)] t1)).alloc (.cells #[.func (.func 92) #[.pointer (some ⟨p, 0, none⟩)] #[]] t2)).cell? ⟨w.heap.size + 2, 0, none⟩ = some (.func (.func 92) #[.pointer (some ⟨p, 0, none⟩)] #[]) := by simp [go_sem]
  generalize hW0 : (((w.alloc (.cells #[.slice none 0 0] 44)).alloc (.cells #[.pointer (some ⟨p, 0, none⟩)] t1)).alloc (.cells #[.func (.func 92) #[.pointer (some ⟨p, 0, none⟩)] #[]] t2)) = W0 at *
  have A0 : GaL w.heap.size (w.heap.size + 3) p a n c l A E w 0 (lsP (rdL l) l A E 0) W0 := ⟨⟨_, e0, g0, [], OwnE.nil _ _ _ _ _, (fun j g => absurd g (by simp)), (fun y hy => by cases hy)⟩, e1, e2, HR.out.below hB0, WK.of_below hB0, by omega⟩
  refine wpIn_rangeFunc_z rfl (by omega) (gf := 125) (lb := #[.pointer (some ⟨w.heap.size + 1, 0, none⟩), .pointer (some ⟨w.heap.size + 1 + 1, 0, none⟩)]) rfl trivial (enters_of Try.func125 (by kernel_rfl) rfl)
    (elemsL_turns 4 (by omega) p (w.heap.size + 1) (w.heap.size + 1 + 1) a n c l A E W0 h0 h1 hlen hnm hbb hne (by omega) (by omega)) rfl
    (fun k W => GaL w.heap.size (w.heap.size + 3) p a n c l A E w k (lsP (rdL l) l A E k) W) (fun k x W => (∃ y : Le, x = .agg y.cs.toArray ∧ LeSame (liV (rdL l) l A E k) y ∧ OwnN (w.heap.size + 3) W (.slice y.sa y.sl y.sc) y.sl y.co) ∧ GaL w.heap.size (w.heap.size + 3) p a n c l A E w k (lsP (rdL l) l A E (k + 1)) W) (fun k x b W => (∃ y : Le, Blk W b 138 y.cs.toArray ∧ LeSame (liV (rdL l) l A E k) y ∧ OwnN (w.heap.size + 3) W (.slice y.sa y.sl y.sc) y.sl y.co) ∧ GaL w.heap.size (w.heap.size + 3) p a n c l A E w k (lsP (rdL l) l A E (k + 1)) W) (fun W => GaL w.heap.size (w.heap.size + 3) p a n c l A E w (liC (rdL l) l A E) (liF (rdL l) l A E) W)
    (fun k A B row hs hgr hr => hs.own hgr (fun r' e => by have := hr r' e; rw [hsz] at this; exact this) (by omega))
    (fun x k A B row hs hgr hr => ⟨by obtain ⟨y, q1, q2, q3⟩ := hs.1; exact ⟨y, q1, q2, q3.own hgr (fun r' e => (hr r' e).2)⟩, hs.2.own hgr (fun r' e => by have := hr r' e; rw [hsz] at this; exact this) (by omega)⟩)
    (fun x b k A B row hs hgr hr => ⟨by obtain ⟨y, q1, q2, q3⟩ := hs.1; exact ⟨y, q1.own hgr (fun r' e => (hr r' e).2), q2, q3.own hgr (fun r' e => (hr r' e).2)⟩, hs.2.own hgr (fun r' e => by have := hr r' e; rw [hsz] at this; exact this) (by omega)⟩)
    (fun k A B row hs hgr hr => hs.own hgr (fun r' e => by have := hr r' e; rw [hsz] at this; exact this) (by omega))
    A0 (fun k A hs => ⟨hs.cg, hs.cn, hs.rd, hs.rk.holds HL.out hne⟩)
    (fun k x A B hs hk hst => ⟨by obtain ⟨y, q1, q2, q3⟩ := hst.1; exact ⟨y, q1, q2, q3.weaken hs.sz⟩, hs.turn hst.2.2 hst.2.1 plt (by omega)⟩)
    (fun A B hs hst => hs.turn hst.2 hst.1 plt (by omega))
    (fun k x A B i o hs hst hi ho hc => (hst.2.2.block i (Array.getElem?_eq_some_iff.1 ho).1 (by omega) (by intro e; cases e)).trans ho)
    (fun A B i o hs hst hi ho hc => (hst.2.block i (Array.getElem?_eq_some_iff.1 ho).1 (by omega) (by intro e; cases e)).trans ho)
    ?a1 ?assign ?body ?done
  case assign =>
    intro lp k x W K hI hk hK
    obtain ⟨⟨y, hx, hy, oy⟩, hG⟩ := hI
    have HX := hid hx
    have HY9 := hid hy
    have OYA : Hid (∀ (t : Nat) (cs : Array Value), OwnN (w.heap.size + 3) (W.alloc (.cells cs t)) (.slice y.sa y.sl y.sc) y.sl y.co) := fun t cs => OwnE.rk oy (WK.of_below ((Below.refl W.heap.size W).alloc (Nat.le_refl _) (.cells cs t)) : RK p W _) (by omega)
    have HO1 := hid (all_oneCell_toArray (Le.one y))
    have HKK : Hid (y.cs.length = 8) := rfl
    have GR : Hid (∀ (t : Nat) (cs : Array Value), GaL w.heap.size (w.heap.size + 3) p a n c l A E w k (lsP (rdL l) l A E (k + 1)) (W.alloc (.cells cs t))) := fun t cs => by
      obtain ⟨⟨v, u1, u2, ys, u3, u9, u10⟩, u4, u5, u6, u7, u8⟩ := hG
      have b := (Below.refl W.heap.size W).alloc (Nat.le_refl _) (.cells cs t)
      exact ⟨⟨v, keepc b u1, keepf b u1 u2, ys, OwnE.rk u3 (WK.of_below b : RK p W _) (by omega), u9, fun y hy => OwnE.rk (u10 y hy) (WK.of_below b : RK p W _) (by omega)⟩, keepc b u4, keepc b u5, u6.below b, u7.bel b, Nat.le_trans u8 b.size⟩
    have HKE := hid hK
    clear hx hG hK hy oy
    obtain ⟨W3, hW3⟩ : ∃ W3, W.alloc (.cells y.cs.toArray 138) = W3 := ⟨_, rfl⟩
    have CX := hid (show Blk W3 W.heap.size 138 y.cs.toArray by rw [← hW3]; exact Blk.alloc _ _ _)
    have HW3 := hid hW3
    have G3 : Hid (GaL w.heap.size (w.heap.size + 3) p a n c l A E w k (lsP (rdL l) l A E (k + 1)) W3) := by unfold Hid; rw [← hW3]; exact GR.out _ _
    have KO : Hid (KeepsOthers W W3) := by
      unfold Hid; rw [← hW3]
      exact ⟨by simp, fun k o hk _ => (Below.heap_alloc W _ _ (Array.getElem?_eq_some_iff.1 hk).1).trans hk⟩
    have OY : Hid (OwnN (w.heap.size + 3) W3 (.slice y.sa y.sl y.sc) y.sl y.co) := by unfold Hid; rw [← hW3]; exact OYA.out _ _
    clear hW3 GR OYA
    have hszz : (Try.prog.info? 138).map (·.size) = some y.cs.toArray.size := by rw [List.size_toArray, HKK.out]; exact sizeLease
    generalize hzc : y.cs = ZC at *
    have EZ := hid hzc
    clear hzc
    gi_wp2_with (refine wpListIn_store_new rfl 138 (.tmp 6) (.tmp 10) rfl ZC.toArray rfl (by show x = _; exact HX.out) 138 _ hszz (by show 8 = ZC.toArray.size; rw [List.size_toArray, HKK.out]) HO1.out W3 HW3.out ?_)
    have HE := HKE.out W.heap.size W3 ⟨⟨y, by rw [EZ.out]; exact CX.out, HY9.out, OY.out⟩, G3.out⟩ (KO.out.from _)
    clear HKE HX HO1 HKK CX HW3 G3 KO hszz
    generalize W.heap.size = B6 at *
    exact HE
  case body =>
    intro lp k x b6 W hI hk
    obtain ⟨⟨y, hbk, hy, oy⟩, ⟨v, u1, u2, ys, hrow, hsm, how⟩, uc, un, ur, uk, us⟩ := hI
    have LN := hid hrow.len
    obtain ⟨f0, f1, f2, ya, yl, yc, f3, f4, f5, f6, yt⟩ := y
    have LD := Blk.loadAt hbk Try.underlying138 rfl sizeLease
    replace LD : (Instr.loadAt 138 (.pointer (some ⟨b6, 0, none⟩))).run Try.prog W = .ok (.agg #[.int .i64 f0, .int .i64 f1, .int .i64 f2, .slice ya yl yc, .int .i64 f3, .int .i64 f4, .int .i64 f5, .bool f6]) W := LD
    obtain ⟨v', w1, hrun, hown', hgr, hnil, hplace⟩ := run_append_own_at (P := Try.prog) (W.alloc (.cells #[.int .i64 f0, .int .i64 f1, .int .i64 f2, .slice ya yl yc, .int .i64 f3, .int .i64 f4, .int .i64 f5, .bool f6] 138)) (w.heap.size + 3) 44 44 138 i0 (.agg #[.int .i64 0, .int .i64 0, .int .i64 0, .slice none 0 0, .int .i64 0, .int .i64 0, .int .i64 0, .bool false]) 8 80 Try.underlying44 hi hz0 hz1 hz2 rfl (by decide) v k _ (hrow.2.alloc _) ⟨W.heap.size, 0, none⟩ 1 1 [.int .i64 f0, .int .i64 f1, .int .i64 f2, .slice ya yl yc, .int .i64 f3, .int .i64 f4, .int .i64 f5, .bool f6] rfl (fun j u hj => by have := (Blk.alloc W #[.int .i64 f0, .int .i64 f1, .int .i64 f2, .slice ya yl yc, .int .i64 f3, .int .i64 f4, .int .i64 f5, .bool f6] (138)).range j u hj; rw [Nat.zero_add] at this; rw [addr_add0]; exact this) (by simp [Value.oneCell']) (by unfold maxLen; omega) (by omega) (by simp; omega)
    obtain ⟨g', cap', rfl⟩ := ownsRow_succ hown'
    rw [appF_eq] at hrun
    have hrowlt : ∀ g, v.ownBlock = some g → w.heap.size + 3 ≤ g := fun g hg => (hrow.lt g hg).1
    have hge : w.heap.size + 3 ≤ g' := (hown'.lt g' rfl).1
    have hblk : ∀ b, b < w.heap.size + 3 → w1.heap[b]? = W.heap[b]? := fun b hb => by
      rw [hgr.block b (by simp; omega) (fun e => by have := hrowlt _ e.symm; omega)]
      exact Below.heap_alloc _ _ _ (by show b < W.heap.size; omega)
    have x1 : w1.cell? ⟨w.heap.size, 0, none⟩ = some v := (World.cell?_of_block (w := W) (hblk _ (by simp))).trans u1
    have x2 : w1.frozen? ⟨w.heap.size, 0, none⟩ = false := (World.frozen?_of_block (w := W) (hblk _ (by simp))).trans u2
    have hKO : Hid (KeepsOthers W w1) := by
      have h1 : KeepsOthers W (W.alloc (.cells #[.int .i64 f0, .int .i64 f1, .int .i64 f2, .slice ya yl yc, .int .i64 f3, .int .i64 f4, .int .i64 f5, .bool f6] 138)) := ⟨by simp, fun k o hk _ => (Below.heap_alloc W _ _ (Array.getElem?_eq_some_iff.1 hk).1).trans hk⟩
      exact h1.trans (keepsOthers_grown hgr (ownsRow_cells (hrow.2.alloc _)))
    have hOb : Hid (∀ b, b < w.heap.size + 3 → b ≠ w.heap.size → (w1.setCell ⟨w.heap.size, 0, none⟩ (.slice (some ⟨g', 0, none⟩) (k + 1) cap')).heap[b]? = W.heap[b]?) := fun b hb hne => (Below.heap_setCell _ _ _ _ hne).trans (hblk b hb)
    have HO : Hid (OwnE 138 8 Le.cs (w.heap.size + 3) (w1.setCell ⟨w.heap.size, 0, none⟩ (.slice (some ⟨g', 0, none⟩) (k + 1) cap')) (.slice (some ⟨g', 0, none⟩) (k + 1) cap') (k + 1) (ys ++ [⟨f0, f1, f2, ya, yl, yc, f3, f4, f5, f6, yt⟩])) := by
      refine ⟨by rw [List.length_append, LN.out]; rfl, ?_⟩
      have h1 : (ys ++ [(⟨f0, f1, f2, ya, yl, yc, f3, f4, f5, f6, yt⟩ : Le)]).flatMap Le.cs = ys.flatMap Le.cs ++ [.int .i64 f0, .int .i64 f1, .int .i64 f2, .slice ya yl yc, .int .i64 f3, .int .i64 f4, .int .i64 f5, .bool f6] := by rw [List.flatMap_append]; rfl
      rw [h1]
      exact hown'.kept (grownBy_setCell' w1 w.heap.size _) (.inr (by simp [Value.ownBlock]; omega))
    have OAL := hid (fun (vv : Value) (nn : Nat) (ll : List Int) (o : OwnN (w.heap.size + 3) W vv nn ll) => ((OwnE.rk o (WK.of_below ((Below.refl W.heap.size W).alloc (Nat.le_refl _) (.cells #[.int .i64 f0, .int .i64 f1, .int .i64 f2, .slice ya yl yc, .int .i64 f3, .int .i64 f4, .int .i64 f5, .bool f6] 138)) : RK p W _) (by omega)).grownN hgr (own_ne (OwnE.rk o (WK.of_below ((Below.refl W.heap.size W).alloc (Nat.le_refl _) (.cells #[.int .i64 f0, .int .i64 f1, .int .i64 f2, .slice ya yl yc, .int .i64 f3, .int .i64 f4, .int .i64 f5, .bool f6] 138)) : RK p W _) (by omega)) (OwnE.rk hrow (WK.of_below ((Below.refl W.heap.size W).alloc (Nat.le_refl _) (.cells #[.int .i64 f0, .int .i64 f1, .int .i64 f2, .slice ya yl yc, .int .i64 f3, .int .i64 f4, .int .i64 f5, .bool f6] 138)) : RK p W _) (by omega)) (by decide))).cellN ⟨w.heap.size, 0, none⟩ (.slice (some ⟨g', 0, none⟩) (k + 1) cap') (fun g e => by have := (o.lt g e).1; show g ≠ w.heap.size; omega))
    have HSM : Hid (∀ j (g : j < (ys ++ [(⟨f0, f1, f2, ya, yl, yc, f3, f4, f5, f6, yt⟩ : Le)]).length), LeSame (liV (rdL l) l A E j) (ys ++ [(⟨f0, f1, f2, ya, yl, yc, f3, f4, f5, f6, yt⟩ : Le)])[j]) := fun j g => by
      by_cases hj : j < ys.length
      · rw [List.getElem_append_left hj]; exact hsm j hj
      · have e : j = k := by rw [List.length_append] at g; simp at g; have := LN.out; omega
        subst e
        rw [List.getElem_append_right (by omega)]
        simp only [LN.out, Nat.sub_self, List.getElem_cons_zero]
        exact hy
    have HOW : Hid (∀ y ∈ ys ++ [(⟨f0, f1, f2, ya, yl, yc, f3, f4, f5, f6, yt⟩ : Le)], OwnN (w.heap.size + 3) (w1.setCell ⟨w.heap.size, 0, none⟩ (.slice (some ⟨g', 0, none⟩) (k + 1) cap')) (.slice y.sa y.sl y.sc) y.sl y.co) := fun y hy => by
      rcases List.mem_append.1 hy with hy | hy
      · exact OAL.out _ _ _ (how y hy)
      · simp only [List.mem_singleton] at hy
        subst hy
        exact OAL.out _ _ _ oy
    have HG1 : Hid (GaL w.heap.size (w.heap.size + 3) p a n c l A E w (k + 1) (lsP (rdL l) l A E (k + 1)) (w1.setCell ⟨w.heap.size, 0, none⟩ (.slice (some ⟨g', 0, none⟩) (k + 1) cap'))) := by
      have hs1 : W.heap.size ≤ w1.heap.size := hKO.out.size
      refine ⟨⟨_, World.cell?_setCell_same' _ _ _ (by rw [x1]; rfl), by rw [World.frozen?_setCell]; exact x2, _, HO.out, HSM.out, HOW.out⟩, ?_, ?_, ?_, ?_, ?_⟩
      · exact (World.cell?_of_block (w := W) (hOb.out _ (by simp) (by simp))).trans uc
      · exact (World.cell?_of_block (w := W) (hOb.out _ (by simp) (by simp))).trans un
      · exact ur.same (hOb.out _ (by omega) (by omega))
      · refine ⟨?_, ?_, ?_, ?_, fun b hb h1 h2 => (hOb.out b (by omega) (by omega)).trans (uk.block b hb h1 h2), fun _ e => by cases e⟩
        · exact hgr.os.trans uk.os
        · exact hgr.tape.trans uk.tape
        · exact hgr.output.trans uk.output
        · have := uk.size; simp [World.setCell]; omega
      · simp [World.setCell]; omega
    have e1a := keepc ((Below.refl _ W).alloc (Nat.le_refl _) (.cells #[.int .i64 f0, .int .i64 f1, .int .i64 f2, .slice ya yl yc, .int .i64 f3, .int .i64 f4, .int .i64 f5, .bool f6] 138)) u1
    clear OAL HSM HOW hsm how hy oy hgr hown' hrow hnil hblk hrowlt hplace uc un ur uk us hOb HO hbk
    gi_wp2_with (refine wpListIn_load_at 138 rfl (.tmp 6) rfl _ _ rfl _ LD ?_)
    exact ⟨(hKO.out.trans (KeepsOthers.setCell _ _ _)).from _, HG1.out⟩
  case done =>
    rintro D W hD hI hK
    obtain ⟨⟨v, u1, u2, ys, hrow, hsm, how⟩, uc, un, ur, uk, us⟩ := hI
    gi_wp2
    refine ⟨by simp, .inl ⟨_, _, rfl, run_takeDeferred hK, ?_⟩⟩
    have hgO := grownBy_putObj' W D (.deferred none)
    have hrO : ∀ r, some D = some r → ∃ o : Obj, W.heap[r]? = some o ∧ o.isCells = false := fun r e => by cases e; exact ⟨_, hK, rfl⟩
    refine ⟨_, results_tmp rfl _ _ _, v, ys, rfl, (hrow.own hgO hrO).weaken (b' := w.heap.size) (by omega), hsm, (fun y hy => ((how y hy).own hgO hrO).weaken (by omega)), ur.own hgO hrO, uk.own (S := w.heap.size + 3) hgO (fun r e => by cases e; omega) (by omega)⟩

theorem listL_any (p : Nat) (a : Option Addr) (n c : Nat) (l : List Int) (A E : Int) (w : World) (h : RdC w p (.slice a n c) A E) (hl : HoldsB w a n c l) (h0 : 0 ≤ A) (h1 : A ≤ n) (hne : ∀ b o, a = some ⟨b, o, none⟩ → 0 < n → b ≠ p) :
    Calls Try.prog 91 #[.pointer (some ⟨p, 0, none⟩), .func (.func 92) #[.pointer (some ⟨p, 0, none⟩)] #[]] w fun e w' => ∃ v ys, e = .returned v ∧ OwnE 138 8 Le.cs w.heap.size w' v (liC (rdL l) l A E) ys ∧ (∀ j (g : j < ys.length), LeSame (liV (rdL l) l A E j) ys[j]) ∧ (∀ y ∈ ys, OwnN w.heap.size w' (.slice y.sa y.sl y.sc) y.sl y.co) ∧ RdC w' p (.slice a n c) (liF (rdL l) l A E).1 (liF (rdL l) l A E).2 ∧ RK p w w' := callsIn_wide.1 (listL_in p a n c l A E w h hl h0 h1 hne)
end Go.Proofs.Ythkbddnkcljjpaa

namespace Go.Proofs.Ythkbddnkcljjpaa
open Go.RowKit Go.Deep Go.Maps
set_option linter.unusedVariables false
set_option linter.unusedSimpArgs false

/-- Where the reader stands behind each part of an answer, of a state. -/
def anB (l : List Int) (A E : Int) : Int × Int := liF (tkI l) l (tkc l A E 2).2.1 (tkc l A E 2).2.2
def anE (l : List Int) (A E : Int) : Int × Int := liF (rdL l) l (anB l A E).1 (anB l A E).2
def s0B (l : List Int) (A E : Int) : Int × Int := (tkc l A E 2).2
def sQB (l : List Int) (A E : Int) : Int × Int := liF (rdQ l) l (s0B l A E).1 (s0B l A E).2
def sNB (l : List Int) (A E : Int) : Int × Int := liF (rdN l) l (sQB l A E).1 (sQB l A E).2
def sTB (l : List Int) (A E : Int) : Int × Int := liF (rdT l) l (sNB l A E).1 (sNB l A E).2
def sLB (l : List Int) (A E : Int) : Int × Int := liF (rdL l) l (sTB l A E).1 (sTB l A E).2
def sHB (l : List Int) (A E : Int) : Int × Int := liF (rdH l) l (sLB l A E).1 (sLB l A E).2
theorem s0B_at (l : List Int) (A E : Int) (h0 : 0 ≤ A) (h1 : A ≤ l.length) : 0 ≤ (s0B l A E).1 ∧ (s0B l A E).1 ≤ l.length := tkc_at l A E h0 h1 2
theorem anB_at (l : List Int) (A E : Int) (h0 : 0 ≤ A) (h1 : A ≤ l.length) : 0 ≤ (anB l A E).1 ∧ (anB l A E).1 ≤ l.length := by
  have h := tkc_at l A E h0 h1 2
  exact liF_at (fun A E h0 h1 => tkI_at l A E h0 h1) h.1 h.2
theorem anE_at (l : List Int) (A E : Int) (h0 : 0 ≤ A) (h1 : A ≤ l.length) : 0 ≤ (anE l A E).1 ∧ (anE l A E).1 ≤ l.length := by
  have h := anB_at l A E h0 h1
  exact liF_at (fun A E h0 h1 => rdL_at l A E h0 h1) h.1 h.2
theorem sQB_at (l : List Int) (A E : Int) (h0 : 0 ≤ A) (h1 : A ≤ l.length) : 0 ≤ (sQB l A E).1 ∧ (sQB l A E).1 ≤ l.length := by
  have h := s0B_at l A E h0 h1
  exact liF_at (fun A E h0 h1 => rdQ_at l A E h0 h1) h.1 h.2
theorem sNB_at (l : List Int) (A E : Int) (h0 : 0 ≤ A) (h1 : A ≤ l.length) : 0 ≤ (sNB l A E).1 ∧ (sNB l A E).1 ≤ l.length := by
  have h := sQB_at l A E h0 h1
  exact liF_at (fun A E h0 h1 => rdN_at l A E h0 h1) h.1 h.2
theorem sTB_at (l : List Int) (A E : Int) (h0 : 0 ≤ A) (h1 : A ≤ l.length) : 0 ≤ (sTB l A E).1 ∧ (sTB l A E).1 ≤ l.length := by
  have h := sNB_at l A E h0 h1
  exact liF_at (fun A E h0 h1 => rdT_at l A E h0 h1) h.1 h.2
theorem sLB_at (l : List Int) (A E : Int) (h0 : 0 ≤ A) (h1 : A ≤ l.length) : 0 ≤ (sLB l A E).1 ∧ (sLB l A E).1 ≤ l.length := by
  have h := sTB_at l A E h0 h1
  exact liF_at (fun A E h0 h1 => rdL_at l A E h0 h1) h.1 h.2
theorem sHB_at (l : List Int) (A E : Int) (h0 : 0 ≤ A) (h1 : A ≤ l.length) : 0 ≤ (sHB l A E).1 ∧ (sHB l A E).1 ≤ l.length := by
  have h := sLB_at l A E h0 h1
  exact liF_at (fun A E h0 h1 => rdH_at l A E h0 h1) h.1 h.2
set_option maxRecDepth 100000 in
set_option maxHeartbeats 8000000 in
theorem rdanswer_any (p : Nat) (a : Option Addr) (n c : Nat) (l : List Int) (A E : Int) (w : World) (h : RdC w p (.slice a n c) A E) (hl : HoldsB w a n c l) (h0 : 0 ≤ A) (h1 : A ≤ n) (hne : ∀ b o, a = some ⟨b, o, none⟩ → 0 < n → b ≠ p) :
    Calls Try.prog 59 #[.pointer (some ⟨p, 0, none⟩)] w fun e w' => ∃ vI vL yL, e = .returned (.agg #[.int .i64 (tkc l A E 0).1, .int .i64 (tkc l A E 1).1, .int .i64 (tkc l A E 2).1, vI, vL]) ∧ (OwnN w.heap.size w' vI (liC (tkI l) l (tkc l A E 2).2.1 (tkc l A E 2).2.2) (liL (tkI l) l (tkc l A E 2).2.1 (tkc l A E 2).2.2)) ∧ (OwnE 138 8 Le.cs w.heap.size w' vL (liC (rdL l) l (anB l A E).1 (anB l A E).2) yL ∧ (∀ j (g : j < yL.length), LeSame (liV (rdL l) l (anB l A E).1 (anB l A E).2 j) yL[j]) ∧ (∀ y ∈ yL, OwnN w.heap.size w' (.slice y.sa y.sl y.sc) y.sl y.co)) ∧ RdC w' p (.slice a n c) (anE l A E).1 (anE l A E).2 ∧ RK p w w' := by
  have hlen := hl.1
  have hnm := hl.2.1
  have hP := h.lt
  go_enter Try.func59, Try.ntmps59
  go_upto_region 1 with fail
  have B0 := (Below.refl w.heap.size w).alloc (Nat.le_refl _) (.cells #[.int .i64 0, .int .i64 0, .int .i64 0, .slice none 0 0, .slice none 0 0] 46)
  have H0 := hid (h.below B0)
  have L0 := hid (hl.below B0)
  have K0 : Hid (RK p w (w.alloc (.cells #[.int .i64 0, .int .i64 0, .int .i64 0, .slice none 0 0, .slice none 0 0] 46))) := WK.of_below B0
  have BX := hid (Blk.alloc w #[.int .i64 0, .int .i64 0, .int .i64 0, .slice none 0 0, .slice none 0 0] (46))
  have hQ : w.heap.size ≠ p := by omega
  clear h hl B0
  generalize (w.alloc (.cells #[.int .i64 0, .int .i64 0, .int .i64 0, .slice none 0 0, .slice none 0 0] 46)) = W0 at *
  generalize hq : w.heap.size = QB at *
  have AT := hid (tkc_at l A E h0 (by omega))
  have AB := hid (anB_at l A E h0 (by omega))
  have C0 : Hid (Calls Try.prog 86 #[.pointer (some ⟨p, 0, none⟩)] W0 fun e w' => e = .returned (.int .i64 (tkc l A E 0).1) ∧ RdC w' p (.slice a n c) (tkc l A E 0).2.1 (tkc l A E 0).2.2 ∧ RK p W0 w') := by
    exact rint_any p a n c l A E W0 H0.out L0.out ⟨by omega, by omega⟩ hne
  go_wp2_with fail
  with_reducible refine C0.out.mono ?_
  rintro e W1 ⟨rfl, r, k⟩
  have H1 := hid r
  have L1 := hid (k.holds L0.out hne)
  replace BX := hid (BX.out.rk k hQ)
  have K1 := hid (K0.out.trans k)
  clear C0 r k H0 L0 K0
  have C1 : Hid (Calls Try.prog 86 #[.pointer (some ⟨p, 0, none⟩)] W1 fun e w' => e = .returned (.int .i64 (tkc l A E 1).1) ∧ RdC w' p (.slice a n c) (tkc l A E 1).2.1 (tkc l A E 1).2.2 ∧ RK p W1 w') := by
    exact rint_any p a n c l (tkc l A E 0).2.1 (tkc l A E 0).2.2 W1 H1.out L1.out ⟨by have := AT.out 0; omega, by have := AT.out 0; omega⟩ hne
  go_wp2_with fail
  with_reducible refine C1.out.mono ?_
  rintro e W2 ⟨rfl, r, k⟩
  have H2 := hid r
  have L2 := hid (k.holds L1.out hne)
  replace BX := hid (BX.out.rk k hQ)
  have K2 := hid (K1.out.trans k)
  clear C1 r k H1 L1 K1
  have C2 : Hid (Calls Try.prog 86 #[.pointer (some ⟨p, 0, none⟩)] W2 fun e w' => e = .returned (.int .i64 (tkc l A E 2).1) ∧ RdC w' p (.slice a n c) (tkc l A E 2).2.1 (tkc l A E 2).2.2 ∧ RK p W2 w') := by
    exact rint_any p a n c l (tkc l A E 1).2.1 (tkc l A E 1).2.2 W2 H2.out L2.out ⟨by have := AT.out 1; omega, by have := AT.out 1; omega⟩ hne
  go_wp2_with fail
  with_reducible refine C2.out.mono ?_
  rintro e W3 ⟨rfl, r, k⟩
  have H3 := hid r
  have L3 := hid (k.holds L2.out hne)
  replace BX := hid (BX.out.rk k hQ)
  have K3 := hid (K2.out.trans k)
  clear C2 r k H2 L2 K2
  have C3 : Hid (Calls Try.prog 90 #[.pointer (some ⟨p, 0, none⟩), .func (.func 86) #[.pointer (some ⟨p, 0, none⟩)] #[]] W3 fun e w' => ∃ v, e = .returned v ∧ (OwnN W3.heap.size w' v (liC (tkI l) l (tkc l A E 2).2.1 (tkc l A E 2).2.2) (liL (tkI l) l (tkc l A E 2).2.1 (tkc l A E 2).2.2)) ∧ RdC w' p (.slice a n c) (anB l A E).1 (anB l A E).2 ∧ RK p W3 w') := by
    have hh := listI_any p a n c l (tkc l A E 2).2.1 (tkc l A E 2).2.2 W3 H3.out L3.out (by have := AT.out 2; omega) (by have := AT.out 2; omega) hne
    refine hh.mono ?_
    rintro e w' ⟨v, h1, h2, h3, h4⟩
    exact ⟨v, h1, h2, h3, h4⟩
  go_wp2_with fail
  with_reducible refine C3.out.mono ?_
  rintro e W4 ⟨vI, rfl, ow, r, k⟩
  have H4 := hid r
  have L4 := hid (k.holds L3.out hne)
  have OI := hid (ow.weaken (b' := QB + 1) (by have := BX.out.lt; omega))
  clear ow
  replace BX := hid (BX.out.rk k hQ)
  have K4 := hid (K3.out.trans k)
  clear C3 r k H3 L3 K3
  have C4 : Hid (Calls Try.prog 91 #[.pointer (some ⟨p, 0, none⟩), .func (.func 92) #[.pointer (some ⟨p, 0, none⟩)] #[]] W4 fun e w' => ∃ v ys, e = .returned v ∧ (OwnE 138 8 Le.cs W4.heap.size w' v (liC (rdL l) l (anB l A E).1 (anB l A E).2) ys ∧ (∀ j (g : j < ys.length), LeSame (liV (rdL l) l (anB l A E).1 (anB l A E).2 j) ys[j]) ∧ (∀ y ∈ ys, OwnN W4.heap.size w' (.slice y.sa y.sl y.sc) y.sl y.co)) ∧ RdC w' p (.slice a n c) (anE l A E).1 (anE l A E).2 ∧ RK p W4 w') := by
    have hh := listL_any p a n c l (anB l A E).1 (anB l A E).2 W4 H4.out L4.out (by have := AB.out; omega) (by have := AB.out; omega) hne
    refine hh.mono ?_
    rintro e w' ⟨v, ys, h1, h2, h3, h4, h5, h6⟩
    exact ⟨v, ys, h1, ⟨h2, h3, h4⟩, h5, h6⟩
  go_wp2_with fail
  with_reducible refine C4.out.mono ?_
  rintro e W5 ⟨vL, yL, rfl, ⟨ow, sm, mw⟩, r, k⟩
  have H5 := hid r
  have L5 := hid (k.holds L4.out hne)
  replace OI := hid (OI.out.rk k (by omega))
  have OL := hid (ow.weaken (b' := QB + 1) (by have := BX.out.lt; omega))
  have SL := hid sm
  have ML := hid (fun y hy => (mw y hy).weaken (b' := QB + 1) (by have := BX.out.lt; omega))
  clear sm mw
  clear ow
  replace BX := hid (BX.out.rk k hQ)
  have K5 := hid (K4.out.trans k)
  clear C4 r k H4 L4 K4
  generalize hx0 : (tkc l A E 0).1 = x0 at *
  have X0 := hid hx0
  clear hx0
  generalize hx1 : (tkc l A E 1).1 = x1 at *
  have X1 := hid hx1
  clear hx1
  generalize hx2 : (tkc l A E 2).1 = x2 at *
  have X2 := hid hx2
  clear hx2
  obtain ⟨aI, cI, rfl⟩ := OI.out.form
  obtain ⟨aL, cL, rfl⟩ := OL.out.form
  have BH := BX.out
  unfold Blk at BH
  go_wp2_with (first | refine wpList_built rfl 46 _ rfl #[.int .i64 x0, .int .i64 x1, .int .i64 x2, .slice aI (liC (tkI l) l (tkc l A E 2).2.1 (tkc l A E 2).2.2) cI, .slice aL (liC (rdL l) l (anB l A E).1 (anB l A E).2) cL] (by kernel_rfl) ?_ | refine wpList_store_row rfl 46 (.tmp 2) (.tmp 17) rfl QB #[.int .i64 x0, .int .i64 x1, .int .i64 x2, .slice aI (liC (tkI l) l (tkc l A E 2).2.1 (tkc l A E 2).2.2) cI, .slice aL (liC (rdL l) l (anB l A E).1 (anB l A E).2) cL] rfl rfl 46 _ BH sizeAns rfl (by simp [Value.oneCell']) ?_)
  clear BH
  refine bodyPost_ret (results_cell rfl rfl ((BX.out.row #[.int .i64 x0, .int .i64 x1, .int .i64 x2, .slice aI (liC (tkI l) l (tkc l A E 2).2.1 (tkc l A E 2).2.2) cI, .slice aL (liC (rdL l) l (anB l A E).1 (anB l A E).2) cL]).loadVar Try.underlying46 rfl sizeAns)) rfl ?_
  refine ⟨_, _, yL, by rw [X0.out, X1.out, X2.out], (OI.out.row (by omega) _).weaken (by omega), ⟨(OL.out.row (by omega) _).weaken (by omega), SL.out, fun y hy => ((ML.out y hy).row (by omega) _).weaken (by omega)⟩, H5.out.same (setRow_other _ _ _ _ (fun e => hQ e.symm)), K5.out.row _ _ (by omega)⟩
set_option maxRecDepth 100000 in
set_option maxHeartbeats 8000000 in
theorem rdstate_any (p : Nat) (a : Option Addr) (n c : Nat) (l : List Int) (A E : Int) (w : World) (h : RdC w p (.slice a n c) A E) (hl : HoldsB w a n c l) (h0 : 0 ≤ A) (h1 : A ≤ n) (hne : ∀ b o, a = some ⟨b, o, none⟩ → 0 < n → b ≠ p) :
    Calls Try.prog 64 #[.pointer (some ⟨p, 0, none⟩)] w fun e w' => ∃ vQ vN vT vL vH yT yL, e = .returned (.agg #[.int .i64 (tkc l A E 0).1, .int .i64 (tkc l A E 1).1, .int .i64 (tkc l A E 2).1, vQ, vN, vT, vL, vH]) ∧ (OwnE 25 7 Q7.cs w.heap.size w' vQ (liC (rdQ l) l (s0B l A E).1 (s0B l A E).2) (liL (rdQ l) l (s0B l A E).1 (s0B l A E).2)) ∧ (OwnE 27 5 N5.cs w.heap.size w' vN (liC (rdN l) l (sQB l A E).1 (sQB l A E).2) (liL (rdN l) l (sQB l A E).1 (sQB l A E).2)) ∧ (OwnE 30 7 T7.cs w.heap.size w' vT (liC (rdT l) l (sNB l A E).1 (sNB l A E).2) yT ∧ (∀ j (g : j < yT.length), TaSame (liV (rdT l) l (sNB l A E).1 (sNB l A E).2 j) yT[j]) ∧ (∀ y ∈ yT, OwnN w.heap.size w' (.slice y.sa y.sl y.sc) y.sl y.tk)) ∧ (OwnE 138 8 Le.cs w.heap.size w' vL (liC (rdL l) l (sTB l A E).1 (sTB l A E).2) yL ∧ (∀ j (g : j < yL.length), LeSame (liV (rdL l) l (sTB l A E).1 (sTB l A E).2 j) yL[j]) ∧ (∀ y ∈ yL, OwnN w.heap.size w' (.slice y.sa y.sl y.sc) y.sl y.co)) ∧ (OwnE 94 2 H2.cs w.heap.size w' vH (liC (rdH l) l (sLB l A E).1 (sLB l A E).2) (liL (rdH l) l (sLB l A E).1 (sLB l A E).2)) ∧ RdC w' p (.slice a n c) (sHB l A E).1 (sHB l A E).2 ∧ RK p w w' := by
  have hlen := hl.1
  have hnm := hl.2.1
  have hP := h.lt
  go_enter Try.func64, Try.ntmps64
  go_upto_region 1 with fail
  have B0 := (Below.refl w.heap.size w).alloc (Nat.le_refl _) (.cells #[.int .i64 0, .int .i64 0, .int .i64 0, .slice none 0 0, .slice none 0 0, .slice none 0 0, .slice none 0 0, .slice none 0 0] 54)
  have H0 := hid (h.below B0)
  have L0 := hid (hl.below B0)
  have K0 : Hid (RK p w (w.alloc (.cells #[.int .i64 0, .int .i64 0, .int .i64 0, .slice none 0 0, .slice none 0 0, .slice none 0 0, .slice none 0 0, .slice none 0 0] 54))) := WK.of_below B0
  have BX := hid (Blk.alloc w #[.int .i64 0, .int .i64 0, .int .i64 0, .slice none 0 0, .slice none 0 0, .slice none 0 0, .slice none 0 0, .slice none 0 0] (54))
  have hQ : w.heap.size ≠ p := by omega
  clear h hl B0
  generalize (w.alloc (.cells #[.int .i64 0, .int .i64 0, .int .i64 0, .slice none 0 0, .slice none 0 0, .slice none 0 0, .slice none 0 0, .slice none 0 0] 54)) = W0 at *
  generalize hq : w.heap.size = QB at *
  have AT := hid (tkc_at l A E h0 (by omega))
  have A0 := hid (s0B_at l A E h0 (by omega))
  have AQ := hid (sQB_at l A E h0 (by omega))
  have AN := hid (sNB_at l A E h0 (by omega))
  have ATT := hid (sTB_at l A E h0 (by omega))
  have AL := hid (sLB_at l A E h0 (by omega))
  have C0 : Hid (Calls Try.prog 85 #[.pointer (some ⟨p, 0, none⟩)] W0 fun e w' => e = .returned (.int .i64 (tkc l A E 0).1) ∧ RdC w' p (.slice a n c) (tkc l A E 0).2.1 (tkc l A E 0).2.2 ∧ RK p W0 w') := by
    exact rint64_any p a n c l A E W0 H0.out L0.out ⟨by omega, by omega⟩ hne
  go_wp2_with fail
  with_reducible refine C0.out.mono ?_
  rintro e W1 ⟨rfl, r, k⟩
  have H1 := hid r
  have L1 := hid (k.holds L0.out hne)
  replace BX := hid (BX.out.rk k hQ)
  have K1 := hid (K0.out.trans k)
  clear C0 r k H0 L0 K0
  have C1 : Hid (Calls Try.prog 85 #[.pointer (some ⟨p, 0, none⟩)] W1 fun e w' => e = .returned (.int .i64 (tkc l A E 1).1) ∧ RdC w' p (.slice a n c) (tkc l A E 1).2.1 (tkc l A E 1).2.2 ∧ RK p W1 w') := by
    exact rint64_any p a n c l (tkc l A E 0).2.1 (tkc l A E 0).2.2 W1 H1.out L1.out ⟨by have := AT.out 0; omega, by have := AT.out 0; omega⟩ hne
  go_wp2_with fail
  with_reducible refine C1.out.mono ?_
  rintro e W2 ⟨rfl, r, k⟩
  have H2 := hid r
  have L2 := hid (k.holds L1.out hne)
  replace BX := hid (BX.out.rk k hQ)
  have K2 := hid (K1.out.trans k)
  clear C1 r k H1 L1 K1
  have C2 : Hid (Calls Try.prog 85 #[.pointer (some ⟨p, 0, none⟩)] W2 fun e w' => e = .returned (.int .i64 (tkc l A E 2).1) ∧ RdC w' p (.slice a n c) (tkc l A E 2).2.1 (tkc l A E 2).2.2 ∧ RK p W2 w') := by
    exact rint64_any p a n c l (tkc l A E 1).2.1 (tkc l A E 1).2.2 W2 H2.out L2.out ⟨by have := AT.out 1; omega, by have := AT.out 1; omega⟩ hne
  go_wp2_with fail
  with_reducible refine C2.out.mono ?_
  rintro e W3 ⟨rfl, r, k⟩
  have H3 := hid r
  have L3 := hid (k.holds L2.out hne)
  replace BX := hid (BX.out.rk k hQ)
  have K3 := hid (K2.out.trans k)
  clear C2 r k H2 L2 K2
  have C3 : Hid (Calls Try.prog 94 #[.pointer (some ⟨p, 0, none⟩), .func (.func 95) #[.pointer (some ⟨p, 0, none⟩)] #[]] W3 fun e w' => ∃ v, e = .returned v ∧ (OwnE 25 7 Q7.cs W3.heap.size w' v (liC (rdQ l) l (s0B l A E).1 (s0B l A E).2) (liL (rdQ l) l (s0B l A E).1 (s0B l A E).2)) ∧ RdC w' p (.slice a n c) (sQB l A E).1 (sQB l A E).2 ∧ RK p W3 w') := by
    have hh := listQ_any p a n c l (s0B l A E).1 (s0B l A E).2 W3 H3.out L3.out (by have := A0.out; omega) (by have := A0.out; omega) hne
    refine hh.mono ?_
    rintro e w' ⟨v, h1, h2, h3, h4⟩
    exact ⟨v, h1, h2, h3, h4⟩
  go_wp2_with fail
  with_reducible refine C3.out.mono ?_
  rintro e W4 ⟨vQ, rfl, ow, r, k⟩
  have H4 := hid r
  have L4 := hid (k.holds L3.out hne)
  have OQ := hid (ow.weaken (b' := QB + 1) (by have := BX.out.lt; omega))
  clear ow
  replace BX := hid (BX.out.rk k hQ)
  have K4 := hid (K3.out.trans k)
  clear C3 r k H3 L3 K3
  have C4 : Hid (Calls Try.prog 96 #[.pointer (some ⟨p, 0, none⟩), .func (.func 97) #[.pointer (some ⟨p, 0, none⟩)] #[]] W4 fun e w' => ∃ v, e = .returned v ∧ (OwnE 27 5 N5.cs W4.heap.size w' v (liC (rdN l) l (sQB l A E).1 (sQB l A E).2) (liL (rdN l) l (sQB l A E).1 (sQB l A E).2)) ∧ RdC w' p (.slice a n c) (sNB l A E).1 (sNB l A E).2 ∧ RK p W4 w') := by
    have hh := listN_any p a n c l (sQB l A E).1 (sQB l A E).2 W4 H4.out L4.out (by have := AQ.out; omega) (by have := AQ.out; omega) hne
    refine hh.mono ?_
    rintro e w' ⟨v, h1, h2, h3, h4⟩
    exact ⟨v, h1, h2, h3, h4⟩
  go_wp2_with fail
  with_reducible refine C4.out.mono ?_
  rintro e W5 ⟨vN, rfl, ow, r, k⟩
  have H5 := hid r
  have L5 := hid (k.holds L4.out hne)
  replace OQ := hid (OQ.out.rk k (by omega))
  have ON := hid (ow.weaken (b' := QB + 1) (by have := BX.out.lt; omega))
  clear ow
  replace BX := hid (BX.out.rk k hQ)
  have K5 := hid (K4.out.trans k)
  clear C4 r k H4 L4 K4
  have C5 : Hid (Calls Try.prog 98 #[.pointer (some ⟨p, 0, none⟩), .func (.func 99) #[.pointer (some ⟨p, 0, none⟩)] #[]] W5 fun e w' => ∃ v ys, e = .returned v ∧ (OwnE 30 7 T7.cs W5.heap.size w' v (liC (rdT l) l (sNB l A E).1 (sNB l A E).2) ys ∧ (∀ j (g : j < ys.length), TaSame (liV (rdT l) l (sNB l A E).1 (sNB l A E).2 j) ys[j]) ∧ (∀ y ∈ ys, OwnN W5.heap.size w' (.slice y.sa y.sl y.sc) y.sl y.tk)) ∧ RdC w' p (.slice a n c) (sTB l A E).1 (sTB l A E).2 ∧ RK p W5 w') := by
    have hh := listT_any p a n c l (sNB l A E).1 (sNB l A E).2 W5 H5.out L5.out (by have := AN.out; omega) (by have := AN.out; omega) hne
    refine hh.mono ?_
    rintro e w' ⟨v, ys, h1, h2, h3, h4, h5, h6⟩
    exact ⟨v, ys, h1, ⟨h2, h3, h4⟩, h5, h6⟩
  go_wp2_with fail
  with_reducible refine C5.out.mono ?_
  rintro e W6 ⟨vT, yT, rfl, ⟨ow, sm, mw⟩, r, k⟩
  have H6 := hid r
  have L6 := hid (k.holds L5.out hne)
  replace OQ := hid (OQ.out.rk k (by omega))
  replace ON := hid (ON.out.rk k (by omega))
  have OT := hid (ow.weaken (b' := QB + 1) (by have := BX.out.lt; omega))
  have ST := hid sm
  have MT := hid (fun y hy => (mw y hy).weaken (b' := QB + 1) (by have := BX.out.lt; omega))
  clear sm mw
  clear ow
  replace BX := hid (BX.out.rk k hQ)
  have K6 := hid (K5.out.trans k)
  clear C5 r k H5 L5 K5
  have C6 : Hid (Calls Try.prog 91 #[.pointer (some ⟨p, 0, none⟩), .func (.func 92) #[.pointer (some ⟨p, 0, none⟩)] #[]] W6 fun e w' => ∃ v ys, e = .returned v ∧ (OwnE 138 8 Le.cs W6.heap.size w' v (liC (rdL l) l (sTB l A E).1 (sTB l A E).2) ys ∧ (∀ j (g : j < ys.length), LeSame (liV (rdL l) l (sTB l A E).1 (sTB l A E).2 j) ys[j]) ∧ (∀ y ∈ ys, OwnN W6.heap.size w' (.slice y.sa y.sl y.sc) y.sl y.co)) ∧ RdC w' p (.slice a n c) (sLB l A E).1 (sLB l A E).2 ∧ RK p W6 w') := by
    have hh := listL_any p a n c l (sTB l A E).1 (sTB l A E).2 W6 H6.out L6.out (by have := ATT.out; omega) (by have := ATT.out; omega) hne
    refine hh.mono ?_
    rintro e w' ⟨v, ys, h1, h2, h3, h4, h5, h6⟩
    exact ⟨v, ys, h1, ⟨h2, h3, h4⟩, h5, h6⟩
  go_wp2_with fail
  with_reducible refine C6.out.mono ?_
  rintro e W7 ⟨vL, yL, rfl, ⟨ow, sm, mw⟩, r, k⟩
  have H7 := hid r
  have L7 := hid (k.holds L6.out hne)
  replace OQ := hid (OQ.out.rk k (by omega))
  replace ON := hid (ON.out.rk k (by omega))
  replace OT := hid (OT.out.rk k (by omega))
  replace MT := hid (fun y hy => (MT.out y hy).rk k (by omega))
  have OL := hid (ow.weaken (b' := QB + 1) (by have := BX.out.lt; omega))
  have SL := hid sm
  have ML := hid (fun y hy => (mw y hy).weaken (b' := QB + 1) (by have := BX.out.lt; omega))
  clear sm mw
  clear ow
  replace BX := hid (BX.out.rk k hQ)
  have K7 := hid (K6.out.trans k)
  clear C6 r k H6 L6 K6
  have C7 : Hid (Calls Try.prog 100 #[.pointer (some ⟨p, 0, none⟩), .func (.func 101) #[.pointer (some ⟨p, 0, none⟩)] #[]] W7 fun e w' => ∃ v, e = .returned v ∧ (OwnE 94 2 H2.cs W7.heap.size w' v (liC (rdH l) l (sLB l A E).1 (sLB l A E).2) (liL (rdH l) l (sLB l A E).1 (sLB l A E).2)) ∧ RdC w' p (.slice a n c) (sHB l A E).1 (sHB l A E).2 ∧ RK p W7 w') := by
    have hh := listH_any p a n c l (sLB l A E).1 (sLB l A E).2 W7 H7.out L7.out (by have := AL.out; omega) (by have := AL.out; omega) hne
    refine hh.mono ?_
    rintro e w' ⟨v, h1, h2, h3, h4⟩
    exact ⟨v, h1, h2, h3, h4⟩
  go_wp2_with fail
  with_reducible refine C7.out.mono ?_
  rintro e W8 ⟨vH, rfl, ow, r, k⟩
  have H8 := hid r
  have L8 := hid (k.holds L7.out hne)
  replace OQ := hid (OQ.out.rk k (by omega))
  replace ON := hid (ON.out.rk k (by omega))
  replace OT := hid (OT.out.rk k (by omega))
  replace MT := hid (fun y hy => (MT.out y hy).rk k (by omega))
  replace OL := hid (OL.out.rk k (by omega))
  replace ML := hid (fun y hy => (ML.out y hy).rk k (by omega))
  have OH := hid (ow.weaken (b' := QB + 1) (by have := BX.out.lt; omega))
  clear ow
  replace BX := hid (BX.out.rk k hQ)
  have K8 := hid (K7.out.trans k)
  clear C7 r k H7 L7 K7
  generalize hx0 : (tkc l A E 0).1 = x0 at *
  have X0 := hid hx0
  clear hx0
  generalize hx1 : (tkc l A E 1).1 = x1 at *
  have X1 := hid hx1
  clear hx1
  generalize hx2 : (tkc l A E 2).1 = x2 at *
  have X2 := hid hx2
  clear hx2
  obtain ⟨aQ, cQ, rfl⟩ := OQ.out.form
  obtain ⟨aN, cN, rfl⟩ := ON.out.form
  obtain ⟨aT, cT, rfl⟩ := OT.out.form
  obtain ⟨aL, cL, rfl⟩ := OL.out.form
  obtain ⟨aH, cH, rfl⟩ := OH.out.form
  have BH := BX.out
  unfold Blk at BH
  go_wp2_with (first | refine wpList_built rfl 54 _ rfl #[.int .i64 x0, .int .i64 x1, .int .i64 x2, .slice aQ (liC (rdQ l) l (s0B l A E).1 (s0B l A E).2) cQ, .slice aN (liC (rdN l) l (sQB l A E).1 (sQB l A E).2) cN, .slice aT (liC (rdT l) l (sNB l A E).1 (sNB l A E).2) cT, .slice aL (liC (rdL l) l (sTB l A E).1 (sTB l A E).2) cL, .slice aH (liC (rdH l) l (sLB l A E).1 (sLB l A E).2) cH] (by kernel_rfl) ?_ | refine wpList_store_row rfl 54 (.tmp 2) (.tmp 29) rfl QB #[.int .i64 x0, .int .i64 x1, .int .i64 x2, .slice aQ (liC (rdQ l) l (s0B l A E).1 (s0B l A E).2) cQ, .slice aN (liC (rdN l) l (sQB l A E).1 (sQB l A E).2) cN, .slice aT (liC (rdT l) l (sNB l A E).1 (sNB l A E).2) cT, .slice aL (liC (rdL l) l (sTB l A E).1 (sTB l A E).2) cL, .slice aH (liC (rdH l) l (sLB l A E).1 (sLB l A E).2) cH] rfl rfl 54 _ BH sizeSta rfl (by simp [Value.oneCell']) ?_)
  clear BH
  refine bodyPost_ret (results_cell rfl rfl ((BX.out.row #[.int .i64 x0, .int .i64 x1, .int .i64 x2, .slice aQ (liC (rdQ l) l (s0B l A E).1 (s0B l A E).2) cQ, .slice aN (liC (rdN l) l (sQB l A E).1 (sQB l A E).2) cN, .slice aT (liC (rdT l) l (sNB l A E).1 (sNB l A E).2) cT, .slice aL (liC (rdL l) l (sTB l A E).1 (sTB l A E).2) cL, .slice aH (liC (rdH l) l (sLB l A E).1 (sLB l A E).2) cH]).loadVar Try.underlying54 rfl sizeSta)) rfl ?_
  refine ⟨_, _, _, _, _, yT, yL, by rw [X0.out, X1.out, X2.out], (OQ.out.row (by omega) _).weaken (by omega), (ON.out.row (by omega) _).weaken (by omega), ⟨(OT.out.row (by omega) _).weaken (by omega), ST.out, fun y hy => ((MT.out y hy).row (by omega) _).weaken (by omega)⟩, ⟨(OL.out.row (by omega) _).weaken (by omega), SL.out, fun y hy => ((ML.out y hy).row (by omega) _).weaken (by omega)⟩, (OH.out.row (by omega) _).weaken (by omega), H8.out.same (setRow_other _ _ _ _ (fun e => hQ e.symm)), K8.out.row _ _ (by omega)⟩
end Go.Proofs.Ythkbddnkcljjpaa

namespace Go.Proofs.Ythkbddnkcljjpaa
open Go.RowKit Go.Deep Go.Maps
set_option linter.unusedVariables false
set_option linter.unusedSimpArgs false

/-- What was read, in memory of its own. -/
def AnO (l : List Int) (A E : Int) (base : Nat) (W : World) (cs : Array Value) : Prop := ∃ vI vL yL, cs = #[.int .i64 (tkc l A E 0).1, .int .i64 (tkc l A E 1).1, .int .i64 (tkc l A E 2).1, vI, vL] ∧ (OwnN base W vI (liC (tkI l) l (tkc l A E 2).2.1 (tkc l A E 2).2.2) (liL (tkI l) l (tkc l A E 2).2.1 (tkc l A E 2).2.2)) ∧ (OwnE 138 8 Le.cs base W vL (liC (rdL l) l (anB l A E).1 (anB l A E).2) yL ∧ (∀ j (g : j < yL.length), LeSame (liV (rdL l) l (anB l A E).1 (anB l A E).2 j) yL[j]) ∧ (∀ y ∈ yL, OwnN base W (.slice y.sa y.sl y.sc) y.sl y.co))
theorem AnO.below' {l : List Int} {A E : Int} {base : Nat} {W W' : World} {cs : Array Value} (h : AnO l A E base W cs) (hb : Below W.heap.size W W') : AnO l A E base W' cs := by
  obtain ⟨vI, vL, yL, e, hI, ⟨hL, sL, mL⟩⟩ := h; exact ⟨vI, vL, yL, e, hI.below hb, ⟨hL.below hb, sL, fun y hy => (mL y hy).below hb⟩⟩
theorem AnO.row {l : List Int} {A E : Int} {base q : Nat} {W : World} {cs : Array Value} (h : AnO l A E base W cs) (h1 : q < base) (ds : Array Value) : AnO l A E base (W.setRow q ds) cs := by
  obtain ⟨vI, vL, yL, e, hI, ⟨hL, sL, mL⟩⟩ := h; exact ⟨vI, vL, yL, e, hI.row h1 ds, ⟨hL.row h1 ds, sL, fun y hy => (mL y hy).row h1 ds⟩⟩
theorem AnO.weaken {l : List Int} {A E : Int} {base b' : Nat} {W : World} {cs : Array Value} (h : AnO l A E base W cs) (hb : b' ≤ base) : AnO l A E b' W cs := by
  obtain ⟨vI, vL, yL, e, hI, ⟨hL, sL, mL⟩⟩ := h; exact ⟨vI, vL, yL, e, hI.weaken hb, ⟨hL.weaken hb, sL, fun y hy => (mL y hy).weaken hb⟩⟩
theorem AnO_cs (p : Nat) (a : Option Addr) (n c : Nat) (l : List Int) (A E : Int) (w : World) (h : RdC w p (.slice a n c) A E) (hl : HoldsB w a n c l) (h0 : 0 ≤ A) (h1 : A ≤ n) (hne : ∀ b o, a = some ⟨b, o, none⟩ → 0 < n → b ≠ p) :
    Calls Try.prog 59 #[.pointer (some ⟨p, 0, none⟩)] w fun e w' => ∃ cs, e = .returned (.agg cs) ∧ cs.size = 5 ∧ cs.all (·.oneCell') = true ∧ AnO l A E w.heap.size w' cs ∧ RdC w' p (.slice a n c) (anE l A E).1 (anE l A E).2 ∧ RK p w w' := by
  refine (rdanswer_any p a n c l A E w h hl h0 h1 hne).mono ?_
  rintro e w' ⟨vI, vL, yL, rfl, hI, ⟨hL, sL, mL⟩, h3, h4⟩
  obtain ⟨aI, cI, rfl⟩ := hI.form
  obtain ⟨aL, cL, rfl⟩ := hL.form
  exact ⟨_, rfl, rfl, by simp [Value.oneCell'], ⟨_, _, yL, rfl, hI, ⟨hL, sL, fun y hy => (mL y hy)⟩⟩, h3, h4⟩

set_option maxRecDepth 100000 in
set_option maxHeartbeats 8000000 in
theorem decA_any (a : Option Addr) (n c : Nat) (l : List Int) (w : World) (hl : HoldsB w a n c l) :
    Calls Try.prog 58 #[.slice a n c, .func (.func 59) #[] #[]] w fun e w' => ∃ cs, e = .returned (.tuple #[.agg cs, .int .i64 (endT n (anE l 0 0).1 (anE l 0 0).2).1, .int .i64 (endT n (anE l 0 0).1 (anE l 0 0).2).2]) ∧ ((endT n (anE l 0 0).1 (anE l 0 0).2).2 ≠ 0 → cs = #[.int .i64 0, .int .i64 0, .int .i64 0, .slice none 0 0, .slice none 0 0]) ∧ ((endT n (anE l 0 0).1 (anE l 0 0).2).2 = 0 → AnO l 0 0 w.heap.size w' cs) ∧ cs.size = 5 ∧ cs.all (·.oneCell') = true ∧ Below w.heap.size w w' := by
  have hlen := hl.1
  have hblk : ∀ b o, a = some ⟨b, o, none⟩ → 0 < n → b < w.heap.size := fun b o e hp => by
    obtain ⟨b', o', e', hc⟩ := hl.2.2.2.2.2.2 hp
    rw [e] at e'; cases e'
    exact cell_lt (hc 0 hp)
  go_enter Try.func58, Try.ntmps58
  go_upto_region 2 with fail
  have B0 := ((Below.refl w.heap.size w).alloc (Nat.le_refl _) (.cells #[.int .i64 0, .int .i64 0, .int .i64 0, .slice none 0 0, .slice none 0 0] 46)).alloc (by simp) (.cells #[.slice a n c, .int .i64 0, .int .i64 0] 151)
  have L0 := hid (hl.below B0)
  have R0 : Hid (RdC ((w.alloc (.cells #[.int .i64 0, .int .i64 0, .int .i64 0, .slice none 0 0, .slice none 0 0] 46)).alloc (.cells #[.slice a n c, .int .i64 0, .int .i64 0] 151)) (w.heap.size + 1) (.slice a n c) 0 0) := ⟨⟨by simp [go_sem], by simp [go_sem], by simp [go_sem]⟩, by simp [go_sem], by simp [go_sem], by simp [go_sem]⟩
  have Q0 := hid ((Blk.alloc w #[.int .i64 0, .int .i64 0, .int .i64 0, .slice none 0 0, .slice none 0 0] (46)).below ((Below.refl _ _).alloc (Nat.le_refl _) (.cells #[.slice a n c, .int .i64 0, .int .i64 0] 151)))
  have z0 : ((w.alloc (.cells #[.int .i64 0, .int .i64 0, .int .i64 0, .slice none 0 0, .slice none 0 0] 46)).alloc (.cells #[.slice a n c, .int .i64 0, .int .i64 0] 151)).heap.size = w.heap.size + 2 := by simp
  clear hl
  generalize ((w.alloc (.cells #[.int .i64 0, .int .i64 0, .int .i64 0, .slice none 0 0, .slice none 0 0] 46)).alloc (.cells #[.slice a n c, .int .i64 0, .int .i64 0] 151)) = W0 at *
  have C1 := hid (AnO_cs (w.heap.size + 1) a n c l 0 0 W0 R0.out L0.out (by omega) (by omega) (fun b o e hp => by have := hblk b o e hp; omega))
  obtain ⟨p, hp⟩ : ∃ p, p = w.heap.size + 1 := ⟨_, rfl⟩
  rw [← hp] at C1 R0
  rw [← hp]
  have HP := hid hp
  clear R0 L0 hblk hp
  go_wp2_with fail
  with_reducible refine C1.out.mono ?_
  rintro e W1 ⟨cs, rfl, hcs, hon, hca, r1, k1⟩
  clear C1
  have hsz : (Try.prog.info? 46).map (·.size) = some cs.size := by rw [hcs]; exact sizeAns
  have Q1 := Q0.out.rk k1 (by have := HP.out; omega)
  have B1 := B0.trans ((show Below w.heap.size W0 W1 from ⟨k1.os, k1.tape, k1.output, k1.size, fun b hb => k1.block b (by omega) (by have := HP.out; omega) (by intro e; cases e)⟩))
  have hs1 := k1.size
  clear B0 Q0 k1
  generalize hpo : (anE l 0 0) = PS at *
  have EP := hid hpo
  clear hpo
  obtain ⟨A1, E1⟩ := PS
  simp only at r1
  go_upto_region 3 with (refine wpList_store_row rfl 46 (.tmp 8) (.tmp 15) rfl W1.heap.size cs rfl rfl 46 _ (heap_alloc_new W1 _) hsz (by rw [hcs]; rfl) hon ?_)
  rw [alloc_row]
  have b2 := (Below.refl W1.heap.size W1).alloc (Nat.le_refl _) (.cells cs 46)
  have BV := hid (Blk.alloc W1 cs (46))
  have RD := hid (r1.below b2)
  have QR := hid (Q1.below b2)
  have BL := hid (B1.alloc B1.size (.cells cs 46))
  have CA := hid (hca.below' b2)
  have nv : W1.heap.size ≠ w.heap.size ∧ W1.heap.size ≠ p := by have := HP.out; omega
  clear r1 Q1 B1 b2 hca
  generalize W1.alloc (.cells cs 46) = WF at *
  generalize W1.heap.size = QV at *
  obtain ⟨⟨y0, y1, y2⟩, f0, f1, f2⟩ := RD.out
  by_cases hE : E1 = 0
  · subst hE
    by_cases hA : A1 < (n : Int)
    · have T := hid (show endT n A1 0 = (A1, 7) by unfold endT; rw [if_pos rfl, if_pos hA])
      have tA : decide (A1 < (n : Int)) = true := by simp; omega
      go_upto_region 5 with fail
      replace RD := hid (RD.out.put 7)
      replace QR := hid (QR.out.cellO ⟨p, 2, none⟩ (.int .i64 7) (by show w.heap.size ≠ p; have := HP.out; omega))
      replace BL := hid (BL.out.setCell (p := ⟨p, 2, none⟩) (by show w.heap.size ≤ p; have := HP.out; omega) (.int .i64 7))
      clear y0 y1 y2 f0 f1 f2 CA BV
      generalize WF.setCell ⟨p, 2, none⟩ (.int .i64 7) = WF at *
      obtain ⟨⟨y0, y1, y2⟩, f0, f1, f2⟩ := RD.out
      go_upto_region 7 with fail
      have BZ := Blk.alloc WF #[.int .i64 0, .int .i64 0, .int .i64 0, .slice none 0 0, .slice none 0 0] (46)
      have RF := RD.out.below ((Below.refl WF.heap.size WF).alloc (Nat.le_refl _) (.cells #[.int .i64 0, .int .i64 0, .int .i64 0, .slice none 0 0, .slice none 0 0] 46))
      have QF := QR.out.below ((Below.refl WF.heap.size WF).alloc (Nat.le_refl _) (.cells #[.int .i64 0, .int .i64 0, .int .i64 0, .slice none 0 0, .slice none 0 0] 46))
      have BF := BL.out.alloc BL.out.size (.cells #[.int .i64 0, .int .i64 0, .int .i64 0, .slice none 0 0, .slice none 0 0] 46)
      have nz : WF.heap.size ≠ w.heap.size := by have := QR.out.lt; omega
      generalize WF.alloc (.cells #[.int .i64 0, .int .i64 0, .int .i64 0, .slice none 0 0, .slice none 0 0] 46) = WG at *
      generalize WF.heap.size = QZ at *
      have dz : Blk WG.drew QZ 46 #[.int .i64 0, .int .i64 0, .int .i64 0, .slice none 0 0, .slice none 0 0] := BZ
      have da : WG.drew.cell? ⟨p, 1, none⟩ = some (.int .i64 A1) := RF.1.2.1
      have de : WG.drew.cell? ⟨p, 2, none⟩ = some (.int .i64 7) := RF.1.2.2
      have dq : Blk WG.drew w.heap.size 46 #[.int .i64 0, .int .i64 0, .int .i64 0, .slice none 0 0, .slice none 0 0] := QF
      have db : Below w.heap.size w WG.drew := BF.drew
      refine wp_region_held_drew (S := fun W => Blk W QZ 46 #[.int .i64 0, .int .i64 0, .int .i64 0, .slice none 0 0, .slice none 0 0] ∧ W.cell? ⟨p, 1, none⟩ = some (.int .i64 A1) ∧ W.cell? ⟨p, 2, none⟩ = some (.int .i64 7)) (by kernel_rfl) ⟨dz, da, de⟩ (fun hHeld => ?_)
      generalize WG.drew = WD at *
      refine wpAnyH_take (i := 0) (v := .agg #[.int .i64 0, .int .i64 0, .int .i64 0, .slice none 0 0, .slice none 0 0]) rfl (by kernel_rfl) (by kernel_rfl) (by kernel_rfl) (fun _ _ _ h => h) (yieldsIf_load_mid (by rfl) 46 (.tmp 9) rfl QZ 0 rfl (#[.int .i64 0, .int .i64 0, .int .i64 0, .slice none 0 0, .slice none 0 0] : Array Value).toList _ (fun W hW => hW.1.range) Try.underlying46 rfl sizeAns) (by assumption) ?_
      (try simp only [Act.put, List.getElem_toArray, List.getElem_cons_succ, List.getElem_cons_zero, List.setIfInBounds_toArray, List.set_cons_zero, List.set_cons_succ])
      refine wpAnyH_take (i := 1) (v := .pointer (some ⟨p, 0, none⟩)) rfl (by kernel_rfl) (by kernel_rfl) (by kernel_rfl) (fun _ _ _ h => h) (Or.inl ⟨by rfl, ?_⟩) (by assumption) ?_
      · (intro w hSw; (try dsimp only at hSw); obtain ⟨hz, ha, he⟩ := hSw; go_simp)
      (try simp only [Act.put, List.getElem_toArray, List.getElem_cons_succ, List.getElem_cons_zero, List.setIfInBounds_toArray, List.set_cons_zero, List.set_cons_succ])
      refine wpAnyH_take (i := 2) (v := .pointer (some ⟨p, 0, none⟩)) rfl (by kernel_rfl) (by kernel_rfl) (by kernel_rfl) (fun _ _ _ h => h) (Or.inl ⟨by rfl, ?_⟩) (by assumption) ?_
      · (intro w hSw; (try dsimp only at hSw); obtain ⟨hz, ha, he⟩ := hSw; go_simp)
      (try simp only [Act.put, List.getElem_toArray, List.getElem_cons_succ, List.getElem_cons_zero, List.setIfInBounds_toArray, List.set_cons_zero, List.set_cons_succ])
      refine wpAnyH_take (i := 3) (v := .pointer (some ⟨p, 1, none⟩)) rfl (by kernel_rfl) (by kernel_rfl) (by kernel_rfl) (fun _ _ _ h => h) (Or.inl ⟨by rfl, ?_⟩) (by assumption) ?_
      · (intro w hSw; (try dsimp only at hSw); obtain ⟨hz, ha, he⟩ := hSw; go_simp)
      (try simp only [Act.put, List.getElem_toArray, List.getElem_cons_succ, List.getElem_cons_zero, List.setIfInBounds_toArray, List.set_cons_zero, List.set_cons_succ])
      refine wpAnyH_take (i := 4) (v := .int .i64 A1) rfl (by kernel_rfl) (by kernel_rfl) (by kernel_rfl) (fun _ _ _ h => h) (Or.inl ⟨by rfl, ?_⟩) (by assumption) ?_
      · (intro w hSw; (try dsimp only at hSw); obtain ⟨hz, ha, he⟩ := hSw; go_simp)
      (try simp only [Act.put, List.getElem_toArray, List.getElem_cons_succ, List.getElem_cons_zero, List.setIfInBounds_toArray, List.set_cons_zero, List.set_cons_succ])
      refine wpAnyH_take (i := 5) (v := .pointer (some ⟨p, 0, none⟩)) rfl (by kernel_rfl) (by kernel_rfl) (by kernel_rfl) (fun _ _ _ h => h) (Or.inl ⟨by rfl, ?_⟩) (by assumption) ?_
      · (intro w hSw; (try dsimp only at hSw); obtain ⟨hz, ha, he⟩ := hSw; go_simp)
      (try simp only [Act.put, List.getElem_toArray, List.getElem_cons_succ, List.getElem_cons_zero, List.setIfInBounds_toArray, List.set_cons_zero, List.set_cons_succ])
      refine wpAnyH_take (i := 6) (v := .pointer (some ⟨p, 0, none⟩)) rfl (by kernel_rfl) (by kernel_rfl) (by kernel_rfl) (fun _ _ _ h => h) (Or.inl ⟨by rfl, ?_⟩) (by assumption) ?_
      · (intro w hSw; (try dsimp only at hSw); obtain ⟨hz, ha, he⟩ := hSw; go_simp)
      (try simp only [Act.put, List.getElem_toArray, List.getElem_cons_succ, List.getElem_cons_zero, List.setIfInBounds_toArray, List.set_cons_zero, List.set_cons_succ])
      refine wpAnyH_take (i := 7) (v := .pointer (some ⟨p, 2, none⟩)) rfl (by kernel_rfl) (by kernel_rfl) (by kernel_rfl) (fun _ _ _ h => h) (Or.inl ⟨by rfl, ?_⟩) (by assumption) ?_
      · (intro w hSw; (try dsimp only at hSw); obtain ⟨hz, ha, he⟩ := hSw; go_simp)
      (try simp only [Act.put, List.getElem_toArray, List.getElem_cons_succ, List.getElem_cons_zero, List.setIfInBounds_toArray, List.set_cons_zero, List.set_cons_succ])
      refine wpAnyH_take (i := 8) (v := .int .i64 7) rfl (by kernel_rfl) (by kernel_rfl) (by kernel_rfl) (fun _ _ _ h => h) (Or.inl ⟨by rfl, ?_⟩) (by assumption) ?_
      · (intro w hSw; (try dsimp only at hSw); obtain ⟨hz, ha, he⟩ := hSw; go_simp)
      (try simp only [Act.put, List.getElem_toArray, List.getElem_cons_succ, List.getElem_cons_zero, List.setIfInBounds_toArray, List.set_cons_zero, List.set_cons_succ])
      refine wpAnyH_ready (rs := [9]) (by kernel_rfl) (by simp) ?_
      refine AllReadyH.cons rfl (fun K hK => ?_) AllReadyH.nil
      refine storeRow_step rfl 46 (.tmp 4) (.tmp 38) rfl w.heap.size #[.int .i64 0, .int .i64 0, .int .i64 0, .slice none 0 0, .slice none 0 0] rfl rfl 46 _ dq sizeAns rfl (by simp [Value.oneCell']) ?_
      refine hK.out _ _ ⟨dz.other (by omega), (cell_setRow_other _ _ _ _ (by show p ≠ _; have := HP.out; omega)).trans da, (cell_setRow_other _ _ _ _ (by show p ≠ _; have := HP.out; omega)).trans de⟩ (fun hHeld => ?_)
      clear hK K
      (try simp only [Act.put, List.getElem_toArray, List.getElem_cons_succ, List.getElem_cons_zero, List.setIfInBounds_toArray, List.set_cons_zero, List.set_cons_succ])
      refine wpAnyH_take (i := 10) (v := .int .i64 A1) rfl (by kernel_rfl) (by kernel_rfl) (by kernel_rfl) (fun _ _ _ h => h) (Or.inl ⟨by rfl, ?_⟩) (by assumption) ?_
      · (intro w hSw; (try dsimp only at hSw); obtain ⟨hz, ha, he⟩ := hSw; go_simp)
      (try simp only [Act.put, List.getElem_toArray, List.getElem_cons_succ, List.getElem_cons_zero, List.setIfInBounds_toArray, List.set_cons_zero, List.set_cons_succ])
      refine wpAnyH_take (i := 11) (v := .int .i64 7) rfl (by kernel_rfl) (by kernel_rfl) (by kernel_rfl) (fun _ _ _ h => h) (Or.inl ⟨by rfl, ?_⟩) (by assumption) ?_
      · (intro w hSw; (try dsimp only at hSw); obtain ⟨hz, ha, he⟩ := hSw; go_simp)
      (try simp only [Act.put, List.getElem_toArray, List.getElem_cons_succ, List.getElem_cons_zero, List.setIfInBounds_toArray, List.set_cons_zero, List.set_cons_succ])
      refine wpAnyH_done (by kernel_rfl) ?_ _
      clear hHeld
      go_wp2_with fail
      refine bodyPost_ret (results_cell3 rfl rfl ((dq.row #[.int .i64 0, .int .i64 0, .int .i64 0, .slice none 0 0, .slice none 0 0]).loadVar Try.underlying46 rfl sizeAns)) rfl ?_
      refine ⟨_, by rw [EP.out, T.out]; rfl, fun _ => rfl, fun h => ?_, rfl, by simp [Value.oneCell'], setRow_below db (Nat.le_refl _)⟩
      rw [EP.out, T.out] at h
      cases h
    · have T := hid (show endT n A1 0 = (0, 0) by unfold endT; rw [if_pos rfl, if_neg hA])
      have tA : decide (A1 < (n : Int)) = false := by simp; omega
      have LD := BV.out.loadAt Try.underlying46 rfl hsz
      have BQ := QR.out
      unfold Blk at BQ
      go_wp2_with (first | refine wpList_load_at 46 rfl (.tmp 8) rfl _ _ rfl cs LD ?_ | refine wpList_store_row rfl 46 (.tmp 4) (.tmp 47) rfl w.heap.size cs rfl rfl 46 _ BQ hsz (by rw [hcs]; rfl) hon ?_)
      refine bodyPost_ret (results_cell3 rfl rfl ((QR.out.row cs).loadVar Try.underlying46 rfl hsz)) rfl ?_
      refine ⟨cs, by rw [EP.out, T.out]; rfl, fun h => absurd (by rw [EP.out, T.out]) h, fun _ => (CA.out.row (by omega) _).weaken (by omega), hcs, by simpa using hon, setRow_below BL.out (Nat.le_refl _)⟩
  · have T := hid (show endT n A1 E1 = (A1, E1) by unfold endT; rw [if_neg hE])
    have tE : (E1 == 0) = false := by simpa using hE
    have tN : (E1 != 0) = true := by simpa using hE
    have HE := hid hE
    clear CA BV hE
    go_upto_region 7 with fail
    have BZ := Blk.alloc WF #[.int .i64 0, .int .i64 0, .int .i64 0, .slice none 0 0, .slice none 0 0] (46)
    have RF := RD.out.below ((Below.refl WF.heap.size WF).alloc (Nat.le_refl _) (.cells #[.int .i64 0, .int .i64 0, .int .i64 0, .slice none 0 0, .slice none 0 0] 46))
    have QF := QR.out.below ((Below.refl WF.heap.size WF).alloc (Nat.le_refl _) (.cells #[.int .i64 0, .int .i64 0, .int .i64 0, .slice none 0 0, .slice none 0 0] 46))
    have BF := BL.out.alloc BL.out.size (.cells #[.int .i64 0, .int .i64 0, .int .i64 0, .slice none 0 0, .slice none 0 0] 46)
    have nz : WF.heap.size ≠ w.heap.size := by have := QR.out.lt; omega
    generalize WF.alloc (.cells #[.int .i64 0, .int .i64 0, .int .i64 0, .slice none 0 0, .slice none 0 0] 46) = WG at *
    generalize WF.heap.size = QZ at *
    have dz : Blk WG.drew QZ 46 #[.int .i64 0, .int .i64 0, .int .i64 0, .slice none 0 0, .slice none 0 0] := BZ
    have da : WG.drew.cell? ⟨p, 1, none⟩ = some (.int .i64 A1) := RF.1.2.1
    have de : WG.drew.cell? ⟨p, 2, none⟩ = some (.int .i64 E1) := RF.1.2.2
    have dq : Blk WG.drew w.heap.size 46 #[.int .i64 0, .int .i64 0, .int .i64 0, .slice none 0 0, .slice none 0 0] := QF
    have db : Below w.heap.size w WG.drew := BF.drew
    refine wp_region_held_drew (S := fun W => Blk W QZ 46 #[.int .i64 0, .int .i64 0, .int .i64 0, .slice none 0 0, .slice none 0 0] ∧ W.cell? ⟨p, 1, none⟩ = some (.int .i64 A1) ∧ W.cell? ⟨p, 2, none⟩ = some (.int .i64 E1)) (by kernel_rfl) ⟨dz, da, de⟩ (fun hHeld => ?_)
    generalize WG.drew = WD at *
    refine wpAnyH_take (i := 0) (v := .agg #[.int .i64 0, .int .i64 0, .int .i64 0, .slice none 0 0, .slice none 0 0]) rfl (by kernel_rfl) (by kernel_rfl) (by kernel_rfl) (fun _ _ _ h => h) (yieldsIf_load_mid (by rfl) 46 (.tmp 9) rfl QZ 0 rfl (#[.int .i64 0, .int .i64 0, .int .i64 0, .slice none 0 0, .slice none 0 0] : Array Value).toList _ (fun W hW => hW.1.range) Try.underlying46 rfl sizeAns) (by assumption) ?_
    (try simp only [Act.put, List.getElem_toArray, List.getElem_cons_succ, List.getElem_cons_zero, List.setIfInBounds_toArray, List.set_cons_zero, List.set_cons_succ])
    refine wpAnyH_take (i := 1) (v := .pointer (some ⟨p, 0, none⟩)) rfl (by kernel_rfl) (by kernel_rfl) (by kernel_rfl) (fun _ _ _ h => h) (Or.inl ⟨by rfl, ?_⟩) (by assumption) ?_
    · (intro w hSw; (try dsimp only at hSw); obtain ⟨hz, ha, he⟩ := hSw; go_simp)
    (try simp only [Act.put, List.getElem_toArray, List.getElem_cons_succ, List.getElem_cons_zero, List.setIfInBounds_toArray, List.set_cons_zero, List.set_cons_succ])
    refine wpAnyH_take (i := 2) (v := .pointer (some ⟨p, 0, none⟩)) rfl (by kernel_rfl) (by kernel_rfl) (by kernel_rfl) (fun _ _ _ h => h) (Or.inl ⟨by rfl, ?_⟩) (by assumption) ?_
    · (intro w hSw; (try dsimp only at hSw); obtain ⟨hz, ha, he⟩ := hSw; go_simp)
    (try simp only [Act.put, List.getElem_toArray, List.getElem_cons_succ, List.getElem_cons_zero, List.setIfInBounds_toArray, List.set_cons_zero, List.set_cons_succ])
    refine wpAnyH_take (i := 3) (v := .pointer (some ⟨p, 1, none⟩)) rfl (by kernel_rfl) (by kernel_rfl) (by kernel_rfl) (fun _ _ _ h => h) (Or.inl ⟨by rfl, ?_⟩) (by assumption) ?_
    · (intro w hSw; (try dsimp only at hSw); obtain ⟨hz, ha, he⟩ := hSw; go_simp)
    (try simp only [Act.put, List.getElem_toArray, List.getElem_cons_succ, List.getElem_cons_zero, List.setIfInBounds_toArray, List.set_cons_zero, List.set_cons_succ])
    refine wpAnyH_take (i := 4) (v := .int .i64 A1) rfl (by kernel_rfl) (by kernel_rfl) (by kernel_rfl) (fun _ _ _ h => h) (Or.inl ⟨by rfl, ?_⟩) (by assumption) ?_
    · (intro w hSw; (try dsimp only at hSw); obtain ⟨hz, ha, he⟩ := hSw; go_simp)
    (try simp only [Act.put, List.getElem_toArray, List.getElem_cons_succ, List.getElem_cons_zero, List.setIfInBounds_toArray, List.set_cons_zero, List.set_cons_succ])
    refine wpAnyH_take (i := 5) (v := .pointer (some ⟨p, 0, none⟩)) rfl (by kernel_rfl) (by kernel_rfl) (by kernel_rfl) (fun _ _ _ h => h) (Or.inl ⟨by rfl, ?_⟩) (by assumption) ?_
    · (intro w hSw; (try dsimp only at hSw); obtain ⟨hz, ha, he⟩ := hSw; go_simp)
    (try simp only [Act.put, List.getElem_toArray, List.getElem_cons_succ, List.getElem_cons_zero, List.setIfInBounds_toArray, List.set_cons_zero, List.set_cons_succ])
    refine wpAnyH_take (i := 6) (v := .pointer (some ⟨p, 0, none⟩)) rfl (by kernel_rfl) (by kernel_rfl) (by kernel_rfl) (fun _ _ _ h => h) (Or.inl ⟨by rfl, ?_⟩) (by assumption) ?_
    · (intro w hSw; (try dsimp only at hSw); obtain ⟨hz, ha, he⟩ := hSw; go_simp)
    (try simp only [Act.put, List.getElem_toArray, List.getElem_cons_succ, List.getElem_cons_zero, List.setIfInBounds_toArray, List.set_cons_zero, List.set_cons_succ])
    refine wpAnyH_take (i := 7) (v := .pointer (some ⟨p, 2, none⟩)) rfl (by kernel_rfl) (by kernel_rfl) (by kernel_rfl) (fun _ _ _ h => h) (Or.inl ⟨by rfl, ?_⟩) (by assumption) ?_
    · (intro w hSw; (try dsimp only at hSw); obtain ⟨hz, ha, he⟩ := hSw; go_simp)
    (try simp only [Act.put, List.getElem_toArray, List.getElem_cons_succ, List.getElem_cons_zero, List.setIfInBounds_toArray, List.set_cons_zero, List.set_cons_succ])
    refine wpAnyH_take (i := 8) (v := .int .i64 E1) rfl (by kernel_rfl) (by kernel_rfl) (by kernel_rfl) (fun _ _ _ h => h) (Or.inl ⟨by rfl, ?_⟩) (by assumption) ?_
    · (intro w hSw; (try dsimp only at hSw); obtain ⟨hz, ha, he⟩ := hSw; go_simp)
    (try simp only [Act.put, List.getElem_toArray, List.getElem_cons_succ, List.getElem_cons_zero, List.setIfInBounds_toArray, List.set_cons_zero, List.set_cons_succ])
    refine wpAnyH_ready (rs := [9]) (by kernel_rfl) (by simp) ?_
    refine AllReadyH.cons rfl (fun K hK => ?_) AllReadyH.nil
    refine storeRow_step rfl 46 (.tmp 4) (.tmp 38) rfl w.heap.size #[.int .i64 0, .int .i64 0, .int .i64 0, .slice none 0 0, .slice none 0 0] rfl rfl 46 _ dq sizeAns rfl (by simp [Value.oneCell']) ?_
    refine hK.out _ _ ⟨dz.other (by omega), (cell_setRow_other _ _ _ _ (by show p ≠ _; have := HP.out; omega)).trans da, (cell_setRow_other _ _ _ _ (by show p ≠ _; have := HP.out; omega)).trans de⟩ (fun hHeld => ?_)
    clear hK K
    (try simp only [Act.put, List.getElem_toArray, List.getElem_cons_succ, List.getElem_cons_zero, List.setIfInBounds_toArray, List.set_cons_zero, List.set_cons_succ])
    refine wpAnyH_take (i := 10) (v := .int .i64 A1) rfl (by kernel_rfl) (by kernel_rfl) (by kernel_rfl) (fun _ _ _ h => h) (Or.inl ⟨by rfl, ?_⟩) (by assumption) ?_
    · (intro w hSw; (try dsimp only at hSw); obtain ⟨hz, ha, he⟩ := hSw; go_simp)
    (try simp only [Act.put, List.getElem_toArray, List.getElem_cons_succ, List.getElem_cons_zero, List.setIfInBounds_toArray, List.set_cons_zero, List.set_cons_succ])
    refine wpAnyH_take (i := 11) (v := .int .i64 E1) rfl (by kernel_rfl) (by kernel_rfl) (by kernel_rfl) (fun _ _ _ h => h) (Or.inl ⟨by rfl, ?_⟩) (by assumption) ?_
    · (intro w hSw; (try dsimp only at hSw); obtain ⟨hz, ha, he⟩ := hSw; go_simp)
    (try simp only [Act.put, List.getElem_toArray, List.getElem_cons_succ, List.getElem_cons_zero, List.setIfInBounds_toArray, List.set_cons_zero, List.set_cons_succ])
    refine wpAnyH_done (by kernel_rfl) ?_ _
    clear hHeld
    go_wp2_with fail
    refine bodyPost_ret (results_cell3 rfl rfl ((dq.row #[.int .i64 0, .int .i64 0, .int .i64 0, .slice none 0 0, .slice none 0 0]).loadVar Try.underlying46 rfl sizeAns)) rfl ?_
    refine ⟨_, by rw [EP.out, T.out]; rfl, fun _ => rfl, fun h => ?_, rfl, by simp [Value.oneCell'], setRow_below db (Nat.le_refl _)⟩
    rw [EP.out, T.out] at h
    exact absurd h HE.out

set_option maxRecDepth 100000 in
set_option maxHeartbeats 8000000 in
theorem decanswer_any (a : Option Addr) (n c : Nat) (l : List Int) (w : World) (hl : HoldsB w a n c l) :
    Calls Try.prog 24 #[.slice a n c] w fun e w' => ∃ cs, e = .returned (.tuple #[.agg cs, .int .i64 (endT n (anE l 0 0).1 (anE l 0 0).2).1, .int .i64 (endT n (anE l 0 0).1 (anE l 0 0).2).2]) ∧ ((endT n (anE l 0 0).1 (anE l 0 0).2).2 ≠ 0 → cs = #[.int .i64 0, .int .i64 0, .int .i64 0, .slice none 0 0, .slice none 0 0]) ∧ ((endT n (anE l 0 0).1 (anE l 0 0).2).2 = 0 → AnO l 0 0 w.heap.size w' cs) ∧ cs.size = 5 ∧ cs.all (·.oneCell') = true ∧ Below w.heap.size w w' := by
  go_enter Try.func24, Try.ntmps24
  go_upto_region 1 with fail
  have B0 := (Below.refl w.heap.size w).alloc (Nat.le_refl _) (.cells #[.int .i64 0, .int .i64 0, .int .i64 0, .slice none 0 0, .slice none 0 0] 46)
  have L0 := hl.below B0
  have Q0 := hid (Blk.alloc w #[.int .i64 0, .int .i64 0, .int .i64 0, .slice none 0 0, .slice none 0 0] (46))
  have z0 : w.heap.size < (w.alloc (.cells #[.int .i64 0, .int .i64 0, .int .i64 0, .slice none 0 0, .slice none 0 0] 46)).heap.size := by simp
  clear hl
  generalize (w.alloc (.cells #[.int .i64 0, .int .i64 0, .int .i64 0, .slice none 0 0, .slice none 0 0] 46)) = W0 at *
  have C1 := hid (decA_any a n c l W0 L0)
  generalize hpo : (anE l 0 0) = PS at *
  have HPO := hid hpo
  generalize hen : endT n PS.1 PS.2 = EN at *
  obtain ⟨rp, re⟩ := EN
  have HEN := hid hen
  clear hen L0 hpo
  go_wp2_with fail
  with_reducible refine C1.out.mono ?_
  rintro e W1 ⟨cs, rfl, hzz, hval, hcs, hon, b1⟩
  have hsz : (Try.prog.info? 46).map (·.size) = some cs.size := by rw [hcs]; exact sizeAns
  have Q1 := Q0.out.below b1
  have B1 := hid (B0.trans (b1.mono (by omega)))
  have HV := hid hval
  have HZ := hid hzz
  have HO := hid hon
  clear C1 B0 Q0 b1 hval hzz hon
  have BQ := Q1
  unfold Blk at BQ
  go_wp2_with (refine wpList_store_row rfl 46 (.tmp 2) (.tmp 7) rfl w.heap.size cs rfl rfl 46 _ BQ hsz (by rw [hcs]; rfl) HO.out ?_)
  refine bodyPost_ret (results_cell3 rfl rfl ((Q1.row cs).loadVar Try.underlying46 rfl hsz)) rfl ?_
  rw [HPO.out, HEN.out]
  exact ⟨cs, rfl, HZ.out, fun h => ((HV.out h).row z0 cs).weaken (by omega), hcs, HO.out, setRow_below B1.out (Nat.le_refl _)⟩

/-- What was read, in memory of its own. -/
def StO (l : List Int) (A E : Int) (base : Nat) (W : World) (cs : Array Value) : Prop := ∃ vQ vN vT vL vH yT yL, cs = #[.int .i64 (tkc l A E 0).1, .int .i64 (tkc l A E 1).1, .int .i64 (tkc l A E 2).1, vQ, vN, vT, vL, vH] ∧ (OwnE 25 7 Q7.cs base W vQ (liC (rdQ l) l (s0B l A E).1 (s0B l A E).2) (liL (rdQ l) l (s0B l A E).1 (s0B l A E).2)) ∧ (OwnE 27 5 N5.cs base W vN (liC (rdN l) l (sQB l A E).1 (sQB l A E).2) (liL (rdN l) l (sQB l A E).1 (sQB l A E).2)) ∧ (OwnE 30 7 T7.cs base W vT (liC (rdT l) l (sNB l A E).1 (sNB l A E).2) yT ∧ (∀ j (g : j < yT.length), TaSame (liV (rdT l) l (sNB l A E).1 (sNB l A E).2 j) yT[j]) ∧ (∀ y ∈ yT, OwnN base W (.slice y.sa y.sl y.sc) y.sl y.tk)) ∧ (OwnE 138 8 Le.cs base W vL (liC (rdL l) l (sTB l A E).1 (sTB l A E).2) yL ∧ (∀ j (g : j < yL.length), LeSame (liV (rdL l) l (sTB l A E).1 (sTB l A E).2 j) yL[j]) ∧ (∀ y ∈ yL, OwnN base W (.slice y.sa y.sl y.sc) y.sl y.co)) ∧ (OwnE 94 2 H2.cs base W vH (liC (rdH l) l (sLB l A E).1 (sLB l A E).2) (liL (rdH l) l (sLB l A E).1 (sLB l A E).2))
theorem StO.below' {l : List Int} {A E : Int} {base : Nat} {W W' : World} {cs : Array Value} (h : StO l A E base W cs) (hb : Below W.heap.size W W') : StO l A E base W' cs := by
  obtain ⟨vQ, vN, vT, vL, vH, yT, yL, e, hQ, hN, ⟨hT, sT, mT⟩, ⟨hL, sL, mL⟩, hH⟩ := h; exact ⟨vQ, vN, vT, vL, vH, yT, yL, e, hQ.below hb, hN.below hb, ⟨hT.below hb, sT, fun y hy => (mT y hy).below hb⟩, ⟨hL.below hb, sL, fun y hy => (mL y hy).below hb⟩, hH.below hb⟩
theorem StO.row {l : List Int} {A E : Int} {base q : Nat} {W : World} {cs : Array Value} (h : StO l A E base W cs) (h1 : q < base) (ds : Array Value) : StO l A E base (W.setRow q ds) cs := by
  obtain ⟨vQ, vN, vT, vL, vH, yT, yL, e, hQ, hN, ⟨hT, sT, mT⟩, ⟨hL, sL, mL⟩, hH⟩ := h; exact ⟨vQ, vN, vT, vL, vH, yT, yL, e, hQ.row h1 ds, hN.row h1 ds, ⟨hT.row h1 ds, sT, fun y hy => (mT y hy).row h1 ds⟩, ⟨hL.row h1 ds, sL, fun y hy => (mL y hy).row h1 ds⟩, hH.row h1 ds⟩
theorem StO.weaken {l : List Int} {A E : Int} {base b' : Nat} {W : World} {cs : Array Value} (h : StO l A E base W cs) (hb : b' ≤ base) : StO l A E b' W cs := by
  obtain ⟨vQ, vN, vT, vL, vH, yT, yL, e, hQ, hN, ⟨hT, sT, mT⟩, ⟨hL, sL, mL⟩, hH⟩ := h; exact ⟨vQ, vN, vT, vL, vH, yT, yL, e, hQ.weaken hb, hN.weaken hb, ⟨hT.weaken hb, sT, fun y hy => (mT y hy).weaken hb⟩, ⟨hL.weaken hb, sL, fun y hy => (mL y hy).weaken hb⟩, hH.weaken hb⟩
theorem StO_cs (p : Nat) (a : Option Addr) (n c : Nat) (l : List Int) (A E : Int) (w : World) (h : RdC w p (.slice a n c) A E) (hl : HoldsB w a n c l) (h0 : 0 ≤ A) (h1 : A ≤ n) (hne : ∀ b o, a = some ⟨b, o, none⟩ → 0 < n → b ≠ p) :
    Calls Try.prog 64 #[.pointer (some ⟨p, 0, none⟩)] w fun e w' => ∃ cs, e = .returned (.agg cs) ∧ cs.size = 8 ∧ cs.all (·.oneCell') = true ∧ StO l A E w.heap.size w' cs ∧ RdC w' p (.slice a n c) (sHB l A E).1 (sHB l A E).2 ∧ RK p w w' := by
  refine (rdstate_any p a n c l A E w h hl h0 h1 hne).mono ?_
  rintro e w' ⟨vQ, vN, vT, vL, vH, yT, yL, rfl, hQ, hN, ⟨hT, sT, mT⟩, ⟨hL, sL, mL⟩, hH, h3, h4⟩
  obtain ⟨aQ, cQ, rfl⟩ := hQ.form
  obtain ⟨aN, cN, rfl⟩ := hN.form
  obtain ⟨aT, cT, rfl⟩ := hT.form
  obtain ⟨aL, cL, rfl⟩ := hL.form
  obtain ⟨aH, cH, rfl⟩ := hH.form
  exact ⟨_, rfl, rfl, by simp [Value.oneCell'], ⟨_, _, _, _, _, yT, yL, rfl, hQ, hN, ⟨hT, sT, fun y hy => (mT y hy)⟩, ⟨hL, sL, fun y hy => (mL y hy)⟩, hH⟩, h3, h4⟩

set_option maxRecDepth 100000 in
set_option maxHeartbeats 8000000 in
theorem decS_any (a : Option Addr) (n c : Nat) (l : List Int) (w : World) (hl : HoldsB w a n c l) :
    Calls Try.prog 63 #[.slice a n c, .func (.func 64) #[] #[]] w fun e w' => ∃ cs, e = .returned (.tuple #[.agg cs, .int .i64 (endT n (sHB l 0 0).1 (sHB l 0 0).2).1, .int .i64 (endT n (sHB l 0 0).1 (sHB l 0 0).2).2]) ∧ ((endT n (sHB l 0 0).1 (sHB l 0 0).2).2 ≠ 0 → cs = #[.int .i64 0, .int .i64 0, .int .i64 0, .slice none 0 0, .slice none 0 0, .slice none 0 0, .slice none 0 0, .slice none 0 0]) ∧ ((endT n (sHB l 0 0).1 (sHB l 0 0).2).2 = 0 → StO l 0 0 w.heap.size w' cs) ∧ cs.size = 8 ∧ cs.all (·.oneCell') = true ∧ Below w.heap.size w w' := by
  have hlen := hl.1
  have hblk : ∀ b o, a = some ⟨b, o, none⟩ → 0 < n → b < w.heap.size := fun b o e hp => by
    obtain ⟨b', o', e', hc⟩ := hl.2.2.2.2.2.2 hp
    rw [e] at e'; cases e'
    exact cell_lt (hc 0 hp)
  go_enter Try.func63, Try.ntmps63
  go_upto_region 2 with fail
  have B0 := ((Below.refl w.heap.size w).alloc (Nat.le_refl _) (.cells #[.int .i64 0, .int .i64 0, .int .i64 0, .slice none 0 0, .slice none 0 0, .slice none 0 0, .slice none 0 0, .slice none 0 0] 54)).alloc (by simp) (.cells #[.slice a n c, .int .i64 0, .int .i64 0] 151)
  have L0 := hid (hl.below B0)
  have R0 : Hid (RdC ((w.alloc (.cells #[.int .i64 0, .int .i64 0, .int .i64 0, .slice none 0 0, .slice none 0 0, .slice none 0 0, .slice none 0 0, .slice none 0 0] 54)).alloc (.cells #[.slice a n c, .int .i64 0, .int .i64 0] 151)) (w.heap.size + 1) (.slice a n c) 0 0) := ⟨⟨by simp [go_sem], by simp [go_sem], by simp [go_sem]⟩, by simp [go_sem], by simp [go_sem], by simp [go_sem]⟩
  have Q0 := hid ((Blk.alloc w #[.int .i64 0, .int .i64 0, .int .i64 0, .slice none 0 0, .slice none 0 0, .slice none 0 0, .slice none 0 0, .slice none 0 0] (54)).below ((Below.refl _ _).alloc (Nat.le_refl _) (.cells #[.slice a n c, .int .i64 0, .int .i64 0] 151)))
  have z0 : ((w.alloc (.cells #[.int .i64 0, .int .i64 0, .int .i64 0, .slice none 0 0, .slice none 0 0, .slice none 0 0, .slice none 0 0, .slice none 0 0] 54)).alloc (.cells #[.slice a n c, .int .i64 0, .int .i64 0] 151)).heap.size = w.heap.size + 2 := by simp
  clear hl
  generalize ((w.alloc (.cells #[.int .i64 0, .int .i64 0, .int .i64 0, .slice none 0 0, .slice none 0 0, .slice none 0 0, .slice none 0 0, .slice none 0 0] 54)).alloc (.cells #[.slice a n c, .int .i64 0, .int .i64 0] 151)) = W0 at *
  have C1 := hid (StO_cs (w.heap.size + 1) a n c l 0 0 W0 R0.out L0.out (by omega) (by omega) (fun b o e hp => by have := hblk b o e hp; omega))
  obtain ⟨p, hp⟩ : ∃ p, p = w.heap.size + 1 := ⟨_, rfl⟩
  rw [← hp] at C1 R0
  rw [← hp]
  have HP := hid hp
  clear R0 L0 hblk hp
  go_wp2_with fail
  with_reducible refine C1.out.mono ?_
  rintro e W1 ⟨cs, rfl, hcs, hon, hca, r1, k1⟩
  clear C1
  have hsz : (Try.prog.info? 54).map (·.size) = some cs.size := by rw [hcs]; exact sizeSta
  have Q1 := Q0.out.rk k1 (by have := HP.out; omega)
  have B1 := B0.trans ((show Below w.heap.size W0 W1 from ⟨k1.os, k1.tape, k1.output, k1.size, fun b hb => k1.block b (by omega) (by have := HP.out; omega) (by intro e; cases e)⟩))
  have hs1 := k1.size
  clear B0 Q0 k1
  generalize hpo : (sHB l 0 0) = PS at *
  have EP := hid hpo
  clear hpo
  obtain ⟨A1, E1⟩ := PS
  simp only at r1
  go_upto_region 3 with (refine wpList_store_row rfl 54 (.tmp 8) (.tmp 15) rfl W1.heap.size cs rfl rfl 54 _ (heap_alloc_new W1 _) hsz (by rw [hcs]; rfl) hon ?_)
  rw [alloc_row]
  have b2 := (Below.refl W1.heap.size W1).alloc (Nat.le_refl _) (.cells cs 54)
  have BV := hid (Blk.alloc W1 cs (54))
  have RD := hid (r1.below b2)
  have QR := hid (Q1.below b2)
  have BL := hid (B1.alloc B1.size (.cells cs 54))
  have CA := hid (hca.below' b2)
  have nv : W1.heap.size ≠ w.heap.size ∧ W1.heap.size ≠ p := by have := HP.out; omega
  clear r1 Q1 B1 b2 hca
  generalize W1.alloc (.cells cs 54) = WF at *
  generalize W1.heap.size = QV at *
  obtain ⟨⟨y0, y1, y2⟩, f0, f1, f2⟩ := RD.out
  by_cases hE : E1 = 0
  · subst hE
    by_cases hA : A1 < (n : Int)
    · have T := hid (show endT n A1 0 = (A1, 7) by unfold endT; rw [if_pos rfl, if_pos hA])
      have tA : decide (A1 < (n : Int)) = true := by simp; omega
      go_upto_region 5 with fail
      replace RD := hid (RD.out.put 7)
      replace QR := hid (QR.out.cellO ⟨p, 2, none⟩ (.int .i64 7) (by show w.heap.size ≠ p; have := HP.out; omega))
      replace BL := hid (BL.out.setCell (p := ⟨p, 2, none⟩) (by show w.heap.size ≤ p; have := HP.out; omega) (.int .i64 7))
      clear y0 y1 y2 f0 f1 f2 CA BV
      generalize WF.setCell ⟨p, 2, none⟩ (.int .i64 7) = WF at *
      obtain ⟨⟨y0, y1, y2⟩, f0, f1, f2⟩ := RD.out
      go_upto_region 7 with fail
      have BZ := Blk.alloc WF #[.int .i64 0, .int .i64 0, .int .i64 0, .slice none 0 0, .slice none 0 0, .slice none 0 0, .slice none 0 0, .slice none 0 0] (54)
      have RF := RD.out.below ((Below.refl WF.heap.size WF).alloc (Nat.le_refl _) (.cells #[.int .i64 0, .int .i64 0, .int .i64 0, .slice none 0 0, .slice none 0 0, .slice none 0 0, .slice none 0 0, .slice none 0 0] 54))
      have QF := QR.out.below ((Below.refl WF.heap.size WF).alloc (Nat.le_refl _) (.cells #[.int .i64 0, .int .i64 0, .int .i64 0, .slice none 0 0, .slice none 0 0, .slice none 0 0, .slice none 0 0, .slice none 0 0] 54))
      have BF := BL.out.alloc BL.out.size (.cells #[.int .i64 0, .int .i64 0, .int .i64 0, .slice none 0 0, .slice none 0 0, .slice none 0 0, .slice none 0 0, .slice none 0 0] 54)
      have nz : WF.heap.size ≠ w.heap.size := by have := QR.out.lt; omega
      generalize WF.alloc (.cells #[.int .i64 0, .int .i64 0, .int .i64 0, .slice none 0 0, .slice none 0 0, .slice none 0 0, .slice none 0 0, .slice none 0 0] 54) = WG at *
      generalize WF.heap.size = QZ at *
      have dz : Blk WG.drew QZ 54 #[.int .i64 0, .int .i64 0, .int .i64 0, .slice none 0 0, .slice none 0 0, .slice none 0 0, .slice none 0 0, .slice none 0 0] := BZ
      have da : WG.drew.cell? ⟨p, 1, none⟩ = some (.int .i64 A1) := RF.1.2.1
      have de : WG.drew.cell? ⟨p, 2, none⟩ = some (.int .i64 7) := RF.1.2.2
      have dq : Blk WG.drew w.heap.size 54 #[.int .i64 0, .int .i64 0, .int .i64 0, .slice none 0 0, .slice none 0 0, .slice none 0 0, .slice none 0 0, .slice none 0 0] := QF
      have db : Below w.heap.size w WG.drew := BF.drew
      refine wp_region_held_drew (S := fun W => Blk W QZ 54 #[.int .i64 0, .int .i64 0, .int .i64 0, .slice none 0 0, .slice none 0 0, .slice none 0 0, .slice none 0 0, .slice none 0 0] ∧ W.cell? ⟨p, 1, none⟩ = some (.int .i64 A1) ∧ W.cell? ⟨p, 2, none⟩ = some (.int .i64 7)) (by kernel_rfl) ⟨dz, da, de⟩ (fun hHeld => ?_)
      generalize WG.drew = WD at *
      refine wpAnyH_take (i := 0) (v := .agg #[.int .i64 0, .int .i64 0, .int .i64 0, .slice none 0 0, .slice none 0 0, .slice none 0 0, .slice none 0 0, .slice none 0 0]) rfl (by kernel_rfl) (by kernel_rfl) (by kernel_rfl) (fun _ _ _ h => h) (yieldsIf_load_mid (by rfl) 54 (.tmp 9) rfl QZ 0 rfl (#[.int .i64 0, .int .i64 0, .int .i64 0, .slice none 0 0, .slice none 0 0, .slice none 0 0, .slice none 0 0, .slice none 0 0] : Array Value).toList _ (fun W hW => hW.1.range) Try.underlying54 rfl sizeSta) (by assumption) ?_
      (try simp only [Act.put, List.getElem_toArray, List.getElem_cons_succ, List.getElem_cons_zero, List.setIfInBounds_toArray, List.set_cons_zero, List.set_cons_succ])
      refine wpAnyH_take (i := 1) (v := .pointer (some ⟨p, 0, none⟩)) rfl (by kernel_rfl) (by kernel_rfl) (by kernel_rfl) (fun _ _ _ h => h) (Or.inl ⟨by rfl, ?_⟩) (by assumption) ?_
      · (intro w hSw; (try dsimp only at hSw); obtain ⟨hz, ha, he⟩ := hSw; go_simp)
      (try simp only [Act.put, List.getElem_toArray, List.getElem_cons_succ, List.getElem_cons_zero, List.setIfInBounds_toArray, List.set_cons_zero, List.set_cons_succ])
      refine wpAnyH_take (i := 2) (v := .pointer (some ⟨p, 0, none⟩)) rfl (by kernel_rfl) (by kernel_rfl) (by kernel_rfl) (fun _ _ _ h => h) (Or.inl ⟨by rfl, ?_⟩) (by assumption) ?_
      · (intro w hSw; (try dsimp only at hSw); obtain ⟨hz, ha, he⟩ := hSw; go_simp)
      (try simp only [Act.put, List.getElem_toArray, List.getElem_cons_succ, List.getElem_cons_zero, List.setIfInBounds_toArray, List.set_cons_zero, List.set_cons_succ])
      refine wpAnyH_take (i := 3) (v := .pointer (some ⟨p, 1, none⟩)) rfl (by kernel_rfl) (by kernel_rfl) (by kernel_rfl) (fun _ _ _ h => h) (Or.inl ⟨by rfl, ?_⟩) (by assumption) ?_
      · (intro w hSw; (try dsimp only at hSw); obtain ⟨hz, ha, he⟩ := hSw; go_simp)
      (try simp only [Act.put, List.getElem_toArray, List.getElem_cons_succ, List.getElem_cons_zero, List.setIfInBounds_toArray, List.set_cons_zero, List.set_cons_succ])
      refine wpAnyH_take (i := 4) (v := .int .i64 A1) rfl (by kernel_rfl) (by kernel_rfl) (by kernel_rfl) (fun _ _ _ h => h) (Or.inl ⟨by rfl, ?_⟩) (by assumption) ?_
      · (intro w hSw; (try dsimp only at hSw); obtain ⟨hz, ha, he⟩ := hSw; go_simp)
      (try simp only [Act.put, List.getElem_toArray, List.getElem_cons_succ, List.getElem_cons_zero, List.setIfInBounds_toArray, List.set_cons_zero, List.set_cons_succ])
      refine wpAnyH_take (i := 5) (v := .pointer (some ⟨p, 0, none⟩)) rfl (by kernel_rfl) (by kernel_rfl) (by kernel_rfl) (fun _ _ _ h => h) (Or.inl ⟨by rfl, ?_⟩) (by assumption) ?_
      · (intro w hSw; (try dsimp only at hSw); obtain ⟨hz, ha, he⟩ := hSw; go_simp)
      (try simp only [Act.put, List.getElem_toArray, List.getElem_cons_succ, List.getElem_cons_zero, List.setIfInBounds_toArray, List.set_cons_zero, List.set_cons_succ])
      refine wpAnyH_take (i := 6) (v := .pointer (some ⟨p, 0, none⟩)) rfl (by kernel_rfl) (by kernel_rfl) (by kernel_rfl) (fun _ _ _ h => h) (Or.inl ⟨by rfl, ?_⟩) (by assumption) ?_
      · (intro w hSw; (try dsimp only at hSw); obtain ⟨hz, ha, he⟩ := hSw; go_simp)
      (try simp only [Act.put, List.getElem_toArray, List.getElem_cons_succ, List.getElem_cons_zero, List.setIfInBounds_toArray, List.set_cons_zero, List.set_cons_succ])
      refine wpAnyH_take (i := 7) (v := .pointer (some ⟨p, 2, none⟩)) rfl (by kernel_rfl) (by kernel_rfl) (by kernel_rfl) (fun _ _ _ h => h) (Or.inl ⟨by rfl, ?_⟩) (by assumption) ?_
      · (intro w hSw; (try dsimp only at hSw); obtain ⟨hz, ha, he⟩ := hSw; go_simp)
      (try simp only [Act.put, List.getElem_toArray, List.getElem_cons_succ, List.getElem_cons_zero, List.setIfInBounds_toArray, List.set_cons_zero, List.set_cons_succ])
      refine wpAnyH_take (i := 8) (v := .int .i64 7) rfl (by kernel_rfl) (by kernel_rfl) (by kernel_rfl) (fun _ _ _ h => h) (Or.inl ⟨by rfl, ?_⟩) (by assumption) ?_
      · (intro w hSw; (try dsimp only at hSw); obtain ⟨hz, ha, he⟩ := hSw; go_simp)
      (try simp only [Act.put, List.getElem_toArray, List.getElem_cons_succ, List.getElem_cons_zero, List.setIfInBounds_toArray, List.set_cons_zero, List.set_cons_succ])
      refine wpAnyH_ready (rs := [9]) (by kernel_rfl) (by simp) ?_
      refine AllReadyH.cons rfl (fun K hK => ?_) AllReadyH.nil
      refine storeRow_step rfl 54 (.tmp 4) (.tmp 38) rfl w.heap.size #[.int .i64 0, .int .i64 0, .int .i64 0, .slice none 0 0, .slice none 0 0, .slice none 0 0, .slice none 0 0, .slice none 0 0] rfl rfl 54 _ dq sizeSta rfl (by simp [Value.oneCell']) ?_
      refine hK.out _ _ ⟨dz.other (by omega), (cell_setRow_other _ _ _ _ (by show p ≠ _; have := HP.out; omega)).trans da, (cell_setRow_other _ _ _ _ (by show p ≠ _; have := HP.out; omega)).trans de⟩ (fun hHeld => ?_)
      clear hK K
      (try simp only [Act.put, List.getElem_toArray, List.getElem_cons_succ, List.getElem_cons_zero, List.setIfInBounds_toArray, List.set_cons_zero, List.set_cons_succ])
      refine wpAnyH_take (i := 10) (v := .int .i64 A1) rfl (by kernel_rfl) (by kernel_rfl) (by kernel_rfl) (fun _ _ _ h => h) (Or.inl ⟨by rfl, ?_⟩) (by assumption) ?_
      · (intro w hSw; (try dsimp only at hSw); obtain ⟨hz, ha, he⟩ := hSw; go_simp)
      (try simp only [Act.put, List.getElem_toArray, List.getElem_cons_succ, List.getElem_cons_zero, List.setIfInBounds_toArray, List.set_cons_zero, List.set_cons_succ])
      refine wpAnyH_take (i := 11) (v := .int .i64 7) rfl (by kernel_rfl) (by kernel_rfl) (by kernel_rfl) (fun _ _ _ h => h) (Or.inl ⟨by rfl, ?_⟩) (by assumption) ?_
      · (intro w hSw; (try dsimp only at hSw); obtain ⟨hz, ha, he⟩ := hSw; go_simp)
      (try simp only [Act.put, List.getElem_toArray, List.getElem_cons_succ, List.getElem_cons_zero, List.setIfInBounds_toArray, List.set_cons_zero, List.set_cons_succ])
      refine wpAnyH_done (by kernel_rfl) ?_ _
      clear hHeld
      go_wp2_with fail
      refine bodyPost_ret (results_cell3 rfl rfl ((dq.row #[.int .i64 0, .int .i64 0, .int .i64 0, .slice none 0 0, .slice none 0 0, .slice none 0 0, .slice none 0 0, .slice none 0 0]).loadVar Try.underlying54 rfl sizeSta)) rfl ?_
      refine ⟨_, by rw [EP.out, T.out]; rfl, fun _ => rfl, fun h => ?_, rfl, by simp [Value.oneCell'], setRow_below db (Nat.le_refl _)⟩
      rw [EP.out, T.out] at h
      cases h
    · have T := hid (show endT n A1 0 = (0, 0) by unfold endT; rw [if_pos rfl, if_neg hA])
      have tA : decide (A1 < (n : Int)) = false := by simp; omega
      have LD := BV.out.loadAt Try.underlying54 rfl hsz
      have BQ := QR.out
      unfold Blk at BQ
      go_wp2_with (first | refine wpList_load_at 54 rfl (.tmp 8) rfl _ _ rfl cs LD ?_ | refine wpList_store_row rfl 54 (.tmp 4) (.tmp 47) rfl w.heap.size cs rfl rfl 54 _ BQ hsz (by rw [hcs]; rfl) hon ?_)
      refine bodyPost_ret (results_cell3 rfl rfl ((QR.out.row cs).loadVar Try.underlying54 rfl hsz)) rfl ?_
      refine ⟨cs, by rw [EP.out, T.out]; rfl, fun h => absurd (by rw [EP.out, T.out]) h, fun _ => (CA.out.row (by omega) _).weaken (by omega), hcs, by simpa using hon, setRow_below BL.out (Nat.le_refl _)⟩
  · have T := hid (show endT n A1 E1 = (A1, E1) by unfold endT; rw [if_neg hE])
    have tE : (E1 == 0) = false := by simpa using hE
    have tN : (E1 != 0) = true := by simpa using hE
    have HE := hid hE
    clear CA BV hE
    go_upto_region 7 with fail
    have BZ := Blk.alloc WF #[.int .i64 0, .int .i64 0, .int .i64 0, .slice none 0 0, .slice none 0 0, .slice none 0 0, .slice none 0 0, .slice none 0 0] (54)
    have RF := RD.out.below ((Below.refl WF.heap.size WF).alloc (Nat.le_refl _) (.cells #[.int .i64 0, .int .i64 0, .int .i64 0, .slice none 0 0, .slice none 0 0, .slice none 0 0, .slice none 0 0, .slice none 0 0] 54))
    have QF := QR.out.below ((Below.refl WF.heap.size WF).alloc (Nat.le_refl _) (.cells #[.int .i64 0, .int .i64 0, .int .i64 0, .slice none 0 0, .slice none 0 0, .slice none 0 0, .slice none 0 0, .slice none 0 0] 54))
    have BF := BL.out.alloc BL.out.size (.cells #[.int .i64 0, .int .i64 0, .int .i64 0, .slice none 0 0, .slice none 0 0, .slice none 0 0, .slice none 0 0, .slice none 0 0] 54)
    have nz : WF.heap.size ≠ w.heap.size := by have := QR.out.lt; omega
    generalize WF.alloc (.cells #[.int .i64 0, .int .i64 0, .int .i64 0, .slice none 0 0, .slice none 0 0, .slice none 0 0, .slice none 0 0, .slice none 0 0] 54) = WG at *
    generalize WF.heap.size = QZ at *
    have dz : Blk WG.drew QZ 54 #[.int .i64 0, .int .i64 0, .int .i64 0, .slice none 0 0, .slice none 0 0, .slice none 0 0, .slice none 0 0, .slice none 0 0] := BZ
    have da : WG.drew.cell? ⟨p, 1, none⟩ = some (.int .i64 A1) := RF.1.2.1
    have de : WG.drew.cell? ⟨p, 2, none⟩ = some (.int .i64 E1) := RF.1.2.2
    have dq : Blk WG.drew w.heap.size 54 #[.int .i64 0, .int .i64 0, .int .i64 0, .slice none 0 0, .slice none 0 0, .slice none 0 0, .slice none 0 0, .slice none 0 0] := QF
    have db : Below w.heap.size w WG.drew := BF.drew
    refine wp_region_held_drew (S := fun W => Blk W QZ 54 #[.int .i64 0, .int .i64 0, .int .i64 0, .slice none 0 0, .slice none 0 0, .slice none 0 0, .slice none 0 0, .slice none 0 0] ∧ W.cell? ⟨p, 1, none⟩ = some (.int .i64 A1) ∧ W.cell? ⟨p, 2, none⟩ = some (.int .i64 E1)) (by kernel_rfl) ⟨dz, da, de⟩ (fun hHeld => ?_)
    generalize WG.drew = WD at *
    refine wpAnyH_take (i := 0) (v := .agg #[.int .i64 0, .int .i64 0, .int .i64 0, .slice none 0 0, .slice none 0 0, .slice none 0 0, .slice none 0 0, .slice none 0 0]) rfl (by kernel_rfl) (by kernel_rfl) (by kernel_rfl) (fun _ _ _ h => h) (yieldsIf_load_mid (by rfl) 54 (.tmp 9) rfl QZ 0 rfl (#[.int .i64 0, .int .i64 0, .int .i64 0, .slice none 0 0, .slice none 0 0, .slice none 0 0, .slice none 0 0, .slice none 0 0] : Array Value).toList _ (fun W hW => hW.1.range) Try.underlying54 rfl sizeSta) (by assumption) ?_
    (try simp only [Act.put, List.getElem_toArray, List.getElem_cons_succ, List.getElem_cons_zero, List.setIfInBounds_toArray, List.set_cons_zero, List.set_cons_succ])
    refine wpAnyH_take (i := 1) (v := .pointer (some ⟨p, 0, none⟩)) rfl (by kernel_rfl) (by kernel_rfl) (by kernel_rfl) (fun _ _ _ h => h) (Or.inl ⟨by rfl, ?_⟩) (by assumption) ?_
    · (intro w hSw; (try dsimp only at hSw); obtain ⟨hz, ha, he⟩ := hSw; go_simp)
    (try simp only [Act.put, List.getElem_toArray, List.getElem_cons_succ, List.getElem_cons_zero, List.setIfInBounds_toArray, List.set_cons_zero, List.set_cons_succ])
    refine wpAnyH_take (i := 2) (v := .pointer (some ⟨p, 0, none⟩)) rfl (by kernel_rfl) (by kernel_rfl) (by kernel_rfl) (fun _ _ _ h => h) (Or.inl ⟨by rfl, ?_⟩) (by assumption) ?_
    · (intro w hSw; (try dsimp only at hSw); obtain ⟨hz, ha, he⟩ := hSw; go_simp)
    (try simp only [Act.put, List.getElem_toArray, List.getElem_cons_succ, List.getElem_cons_zero, List.setIfInBounds_toArray, List.set_cons_zero, List.set_cons_succ])
    refine wpAnyH_take (i := 3) (v := .pointer (some ⟨p, 1, none⟩)) rfl (by kernel_rfl) (by kernel_rfl) (by kernel_rfl) (fun _ _ _ h => h) (Or.inl ⟨by rfl, ?_⟩) (by assumption) ?_
    · (intro w hSw; (try dsimp only at hSw); obtain ⟨hz, ha, he⟩ := hSw; go_simp)
    (try simp only [Act.put, List.getElem_toArray, List.getElem_cons_succ, List.getElem_cons_zero, List.setIfInBounds_toArray, List.set_cons_zero, List.set_cons_succ])
    refine wpAnyH_take (i := 4) (v := .int .i64 A1) rfl (by kernel_rfl) (by kernel_rfl) (by kernel_rfl) (fun _ _ _ h => h) (Or.inl ⟨by rfl, ?_⟩) (by assumption) ?_
    · (intro w hSw; (try dsimp only at hSw); obtain ⟨hz, ha, he⟩ := hSw; go_simp)
    (try simp only [Act.put, List.getElem_toArray, List.getElem_cons_succ, List.getElem_cons_zero, List.setIfInBounds_toArray, List.set_cons_zero, List.set_cons_succ])
    refine wpAnyH_take (i := 5) (v := .pointer (some ⟨p, 0, none⟩)) rfl (by kernel_rfl) (by kernel_rfl) (by kernel_rfl) (fun _ _ _ h => h) (Or.inl ⟨by rfl, ?_⟩) (by assumption) ?_
    · (intro w hSw; (try dsimp only at hSw); obtain ⟨hz, ha, he⟩ := hSw; go_simp)
    (try simp only [Act.put, List.getElem_toArray, List.getElem_cons_succ, List.getElem_cons_zero, List.setIfInBounds_toArray, List.set_cons_zero, List.set_cons_succ])
    refine wpAnyH_take (i := 6) (v := .pointer (some ⟨p, 0, none⟩)) rfl (by kernel_rfl) (by kernel_rfl) (by kernel_rfl) (fun _ _ _ h => h) (Or.inl ⟨by rfl, ?_⟩) (by assumption) ?_
    · (intro w hSw; (try dsimp only at hSw); obtain ⟨hz, ha, he⟩ := hSw; go_simp)
    (try simp only [Act.put, List.getElem_toArray, List.getElem_cons_succ, List.getElem_cons_zero, List.setIfInBounds_toArray, List.set_cons_zero, List.set_cons_succ])
    refine wpAnyH_take (i := 7) (v := .pointer (some ⟨p, 2, none⟩)) rfl (by kernel_rfl) (by kernel_rfl) (by kernel_rfl) (fun _ _ _ h => h) (Or.inl ⟨by rfl, ?_⟩) (by assumption) ?_
    · (intro w hSw; (try dsimp only at hSw); obtain ⟨hz, ha, he⟩ := hSw; go_simp)
    (try simp only [Act.put, List.getElem_toArray, List.getElem_cons_succ, List.getElem_cons_zero, List.setIfInBounds_toArray, List.set_cons_zero, List.set_cons_succ])
    refine wpAnyH_take (i := 8) (v := .int .i64 E1) rfl (by kernel_rfl) (by kernel_rfl) (by kernel_rfl) (fun _ _ _ h => h) (Or.inl ⟨by rfl, ?_⟩) (by assumption) ?_
    · (intro w hSw; (try dsimp only at hSw); obtain ⟨hz, ha, he⟩ := hSw; go_simp)
    (try simp only [Act.put, List.getElem_toArray, List.getElem_cons_succ, List.getElem_cons_zero, List.setIfInBounds_toArray, List.set_cons_zero, List.set_cons_succ])
    refine wpAnyH_ready (rs := [9]) (by kernel_rfl) (by simp) ?_
    refine AllReadyH.cons rfl (fun K hK => ?_) AllReadyH.nil
    refine storeRow_step rfl 54 (.tmp 4) (.tmp 38) rfl w.heap.size #[.int .i64 0, .int .i64 0, .int .i64 0, .slice none 0 0, .slice none 0 0, .slice none 0 0, .slice none 0 0, .slice none 0 0] rfl rfl 54 _ dq sizeSta rfl (by simp [Value.oneCell']) ?_
    refine hK.out _ _ ⟨dz.other (by omega), (cell_setRow_other _ _ _ _ (by show p ≠ _; have := HP.out; omega)).trans da, (cell_setRow_other _ _ _ _ (by show p ≠ _; have := HP.out; omega)).trans de⟩ (fun hHeld => ?_)
    clear hK K
    (try simp only [Act.put, List.getElem_toArray, List.getElem_cons_succ, List.getElem_cons_zero, List.setIfInBounds_toArray, List.set_cons_zero, List.set_cons_succ])
    refine wpAnyH_take (i := 10) (v := .int .i64 A1) rfl (by kernel_rfl) (by kernel_rfl) (by kernel_rfl) (fun _ _ _ h => h) (Or.inl ⟨by rfl, ?_⟩) (by assumption) ?_
    · (intro w hSw; (try dsimp only at hSw); obtain ⟨hz, ha, he⟩ := hSw; go_simp)
    (try simp only [Act.put, List.getElem_toArray, List.getElem_cons_succ, List.getElem_cons_zero, List.setIfInBounds_toArray, List.set_cons_zero, List.set_cons_succ])
    refine wpAnyH_take (i := 11) (v := .int .i64 E1) rfl (by kernel_rfl) (by kernel_rfl) (by kernel_rfl) (fun _ _ _ h => h) (Or.inl ⟨by rfl, ?_⟩) (by assumption) ?_
    · (intro w hSw; (try dsimp only at hSw); obtain ⟨hz, ha, he⟩ := hSw; go_simp)
    (try simp only [Act.put, List.getElem_toArray, List.getElem_cons_succ, List.getElem_cons_zero, List.setIfInBounds_toArray, List.set_cons_zero, List.set_cons_succ])
    refine wpAnyH_done (by kernel_rfl) ?_ _
    clear hHeld
    go_wp2_with fail
    refine bodyPost_ret (results_cell3 rfl rfl ((dq.row #[.int .i64 0, .int .i64 0, .int .i64 0, .slice none 0 0, .slice none 0 0, .slice none 0 0, .slice none 0 0, .slice none 0 0]).loadVar Try.underlying54 rfl sizeSta)) rfl ?_
    refine ⟨_, by rw [EP.out, T.out]; rfl, fun _ => rfl, fun h => ?_, rfl, by simp [Value.oneCell'], setRow_below db (Nat.le_refl _)⟩
    rw [EP.out, T.out] at h
    exact absurd h HE.out

set_option maxRecDepth 100000 in
set_option maxHeartbeats 8000000 in
theorem decstate_any (a : Option Addr) (n c : Nat) (l : List Int) (w : World) (hl : HoldsB w a n c l) :
    Calls Try.prog 27 #[.slice a n c] w fun e w' => ∃ cs, e = .returned (.tuple #[.agg cs, .int .i64 (endT n (sHB l 0 0).1 (sHB l 0 0).2).1, .int .i64 (endT n (sHB l 0 0).1 (sHB l 0 0).2).2]) ∧ ((endT n (sHB l 0 0).1 (sHB l 0 0).2).2 ≠ 0 → cs = #[.int .i64 0, .int .i64 0, .int .i64 0, .slice none 0 0, .slice none 0 0, .slice none 0 0, .slice none 0 0, .slice none 0 0]) ∧ ((endT n (sHB l 0 0).1 (sHB l 0 0).2).2 = 0 → StO l 0 0 w.heap.size w' cs) ∧ cs.size = 8 ∧ cs.all (·.oneCell') = true ∧ Below w.heap.size w w' := by
  go_enter Try.func27, Try.ntmps27
  go_upto_region 1 with fail
  have B0 := (Below.refl w.heap.size w).alloc (Nat.le_refl _) (.cells #[.int .i64 0, .int .i64 0, .int .i64 0, .slice none 0 0, .slice none 0 0, .slice none 0 0, .slice none 0 0, .slice none 0 0] 54)
  have L0 := hl.below B0
  have Q0 := hid (Blk.alloc w #[.int .i64 0, .int .i64 0, .int .i64 0, .slice none 0 0, .slice none 0 0, .slice none 0 0, .slice none 0 0, .slice none 0 0] (54))
  have z0 : w.heap.size < (w.alloc (.cells #[.int .i64 0, .int .i64 0, .int .i64 0, .slice none 0 0, .slice none 0 0, .slice none 0 0, .slice none 0 0, .slice none 0 0] 54)).heap.size := by simp
  clear hl
  generalize (w.alloc (.cells #[.int .i64 0, .int .i64 0, .int .i64 0, .slice none 0 0, .slice none 0 0, .slice none 0 0, .slice none 0 0, .slice none 0 0] 54)) = W0 at *
  have C1 := hid (decS_any a n c l W0 L0)
  generalize hpo : (sHB l 0 0) = PS at *
  have HPO := hid hpo
  generalize hen : endT n PS.1 PS.2 = EN at *
  obtain ⟨rp, re⟩ := EN
  have HEN := hid hen
  clear hen L0 hpo
  go_wp2_with fail
  with_reducible refine C1.out.mono ?_
  rintro e W1 ⟨cs, rfl, hzz, hval, hcs, hon, b1⟩
  have hsz : (Try.prog.info? 54).map (·.size) = some cs.size := by rw [hcs]; exact sizeSta
  have Q1 := Q0.out.below b1
  have B1 := hid (B0.trans (b1.mono (by omega)))
  have HV := hid hval
  have HZ := hid hzz
  have HO := hid hon
  clear C1 B0 Q0 b1 hval hzz hon
  have BQ := Q1
  unfold Blk at BQ
  go_wp2_with (refine wpList_store_row rfl 54 (.tmp 2) (.tmp 7) rfl w.heap.size cs rfl rfl 54 _ BQ hsz (by rw [hcs]; rfl) HO.out ?_)
  refine bodyPost_ret (results_cell3 rfl rfl ((Q1.row cs).loadVar Try.underlying54 rfl hsz)) rfl ?_
  rw [HPO.out, HEN.out]
  exact ⟨cs, rfl, HZ.out, fun h => ((HV.out h).row z0 cs).weaken (by omega), hcs, HO.out, setRow_below B1.out (Nat.le_refl _)⟩
end Go.Proofs.Ythkbddnkcljjpaa

namespace Go.Proofs.Ythkbddnkcljjpaa
open Go.RowKit Go.Deep Go.Maps
set_option linter.unusedVariables false
set_option linter.unusedSimpArgs false
theorem liC_up {α : Type} {pe : Int → Int → α × Int × Int} {l : List Int} {A E : Int} (hb : BB l) : liC pe l A E ≤ 1024 := by
  have h := upT_bd l A E 1024 3 hb (by omega)
  have h2 := lsC_le pe (upT l A E 1024 3).2.1 (upT l A E 1024 3).2.2 (upT l A E 1024 3).1
  unfold liC
  omega
theorem noneE {α : Type} {k : Nat} {enc : α → List Value} (hk : ∀ x, (enc x).length = k) (w : World) : HoldsE k enc w none 0 0 [] := (OwnE.nil 0 k enc 0 w).holds hk
theorem le_join {x y z : Le} (h : LeSame x y) (g : LeSame x z) : LeSame y z := by
  obtain ⟨a, b, c, d, e, f, j, i, k⟩ := h; obtain ⟨a', b', c', d', e', f', j', i', k'⟩ := g
  exact ⟨a.symm.trans a', b.symm.trans b', c.symm.trans c', d.symm.trans d', e.symm.trans e', f.symm.trans f', j.symm.trans j', i.symm.trans i', k.symm.trans k'⟩
theorem ta_join {x y z : T7} (h : TaSame x y) (g : TaSame x z) : TaSame y z := by
  obtain ⟨a, b, c, d, e, f, j, i⟩ := h; obtain ⟨a', b', c', d', e', f', j', i'⟩ := g
  exact ⟨a.symm.trans a', b.symm.trans b', c.symm.trans c', d.symm.trans d', e.symm.trans e', f.symm.trans f', j.symm.trans j', i.symm.trans i'⟩
theorem le_sl {l : List Int} (hb : BB l) {A E : Int} {ys : List Le} (s : ∀ j (g : j < ys.length), LeSame (liV (rdL l) l A E j) ys[j]) : ∀ x ∈ ys, x.sl ≤ 140737488355328 := fun x hx => by
  obtain ⟨j, g, rfl⟩ := List.getElem_of_mem hx
  have h := (s j g).2.2.2.1
  have h2 : (liV (rdL l) l A E j).sl ≤ 1024 := liC_up (pe := tkI l) (l := l) hb
  omega
theorem ta_sl {l : List Int} (hb : BB l) {A E : Int} {ys : List T7} (s : ∀ j (g : j < ys.length), TaSame (liV (rdT l) l A E j) ys[j]) : ∀ x ∈ ys, x.sl ≤ 140737488355328 := fun x hx => by
  obtain ⟨j, g, rfl⟩ := List.getElem_of_mem hx
  have h := (s j g).2.2.2.2.2.1
  have h2 : (liV (rdT l) l A E j).sl ≤ 1024 := liC_up (pe := tkI l) (l := l) hb
  omega
theorem EnO.shape {l : List Int} {A E : Int} {b : Nat} {W : World} {cs : Array Value} (h : EnO l A E b W cs) : cs.size = 27 ∧ cs.all (·.oneCell') = true := by
  obtain ⟨v, rfl, o⟩ := h
  obtain ⟨va, vc, rfl⟩ := o.form
  exact ⟨rfl, by simp [enV, Value.oneCell']⟩
theorem AnO.shape {l : List Int} {A E : Int} {b : Nat} {W : World} {cs : Array Value} (h : AnO l A E b W cs) : cs.size = 5 ∧ cs.all (·.oneCell') = true := by
  obtain ⟨vI, vL, yL, rfl, hI, ⟨hL, sL, mL⟩⟩ := h
  obtain ⟨a1, c1, rfl⟩ := hI.form
  obtain ⟨a2, c2, rfl⟩ := hL.form
  exact ⟨rfl, by simp [Value.oneCell']⟩
theorem StO.shape {l : List Int} {A E : Int} {b : Nat} {W : World} {cs : Array Value} (h : StO l A E b W cs) : cs.size = 8 ∧ cs.all (·.oneCell') = true := by
  obtain ⟨vQ, vN, vT, vL, vH, yT, yL, rfl, hQ, hN, ⟨hT, sT, mT⟩, ⟨hL, sL, mL⟩, hH⟩ := h
  obtain ⟨a1, c1, rfl⟩ := hQ.form
  obtain ⟨a2, c2, rfl⟩ := hN.form
  obtain ⟨a3, c3, rfl⟩ := hT.form
  obtain ⟨a4, c4, rfl⟩ := hL.form
  obtain ⟨a5, c5, rfl⟩ := hH.form
  exact ⟨rfl, by simp [Value.oneCell']⟩
set_option maxRecDepth 100000 in
theorem same_ent {l : List Int} {b b' : Nat} {W : World} {cs ds : Array Value} (hb : BB l) (h : (cs = #[.int .i64 0, .int .i64 0, .int .i64 0, .int .i64 0, .int .i64 0, .int .i64 0, .int .i64 0, .int .i64 0, .int .i64 0, .int .i64 0, .int .i64 0, .int .i64 0, .int .i64 0, .int .i64 0, .int .i64 0, .int .i64 0, .int .i64 0, .int .i64 0, .int .i64 0, .int .i64 0, .int .i64 0, .int .i64 0, .int .i64 0, .int .i64 0, .int .i64 0, .slice none 0 0, .int .i64 0] ∧ ds = #[.int .i64 0, .int .i64 0, .int .i64 0, .int .i64 0, .int .i64 0, .int .i64 0, .int .i64 0, .int .i64 0, .int .i64 0, .int .i64 0, .int .i64 0, .int .i64 0, .int .i64 0, .int .i64 0, .int .i64 0, .int .i64 0, .int .i64 0, .int .i64 0, .int .i64 0, .int .i64 0, .int .i64 0, .int .i64 0, .int .i64 0, .int .i64 0, .int .i64 0, .slice none 0 0, .int .i64 0]) ∨ (EnO l 0 0 b W cs ∧ EnO l 0 0 b' W ds)) :
    Calls Try.prog 15 #[.agg cs, .agg ds] W fun e w' => e = .returned (.bool true) ∧ Below W.heap.size W w' := by
  rcases h with ⟨rfl, rfl⟩ | ⟨⟨v, rfl, o⟩, ⟨v', rfl, o'⟩⟩
  · exact sent_any 0 0 0 0 0 0 0 0 0 0 0 0 0 0 0 0 0 0 0 0 0 0 0 0 0 0 none none 0 0 0 [] W (noneE encN_len W) (noneE encN_len W) (by omega)
  · obtain ⟨va, vc, rfl⟩ := o.form
    obtain ⟨vb, vd, rfl⟩ := o'.form
    have hc : enC l 0 0 ≤ 1024 := liC_up hb
    exact sent_any _ _ _ _ _ _ _ _ _ _ _ _ _ _ _ _ _ _ _ _ _ _ _ _ _ _ va vb _ vc vd _ W (o.holds encN_len) (o'.holds encN_len) (by omega)
set_option maxRecDepth 100000 in
theorem same_ans {l : List Int} {b b' : Nat} {W : World} {cs ds : Array Value} (hb : BB l) (h : (cs = #[.int .i64 0, .int .i64 0, .int .i64 0, .slice none 0 0, .slice none 0 0] ∧ ds = #[.int .i64 0, .int .i64 0, .int .i64 0, .slice none 0 0, .slice none 0 0]) ∨ (AnO l 0 0 b W cs ∧ AnO l 0 0 b' W ds)) :
    Calls Try.prog 26 #[.agg cs, .agg ds] W fun e w' => e = .returned (.bool true) ∧ Below W.heap.size W w' := by
  rcases h with ⟨rfl, rfl⟩ | ⟨⟨vI, vL, yL, rfl, hI, ⟨hL, sL, mL⟩⟩, ⟨vI', vL', yL', rfl, hI', ⟨hL', sL', mL'⟩⟩⟩
  · exact sanswer_any 0 0 0 none none 0 0 0 [] none none 0 0 0 [] [] W (noneE encN_len W) (noneE encN_len W) (by omega) (noneE Le.cs_len W) (noneE Le.cs_len W) (fun x hx => by cases hx) (fun x hx => by cases hx) (fun k g => absurd g (by simp)) (fun x hx => by cases hx)
  · obtain ⟨a1, c1, rfl⟩ := hI.form
    obtain ⟨a2, c2, rfl⟩ := hL.form
    obtain ⟨a3, c3, rfl⟩ := hI'.form
    obtain ⟨a4, c4, rfl⟩ := hL'.form
    have hc : liC (tkI l) l (tkc l 0 0 2).2.1 (tkc l 0 0 2).2.2 ≤ 1024 := liC_up hb
    exact sanswer_any _ _ _ a1 a3 _ c1 c3 _ a2 a4 _ c2 c4 yL yL' W (hI.holds encN_len) (hI'.holds encN_len) (by omega) (hL.holds Le.cs_len) (hL'.holds Le.cs_len) (fun x hx => (mL x hx).holds encN_len) (fun x hx => (mL' x hx).holds encN_len) (fun k g1 g2 => le_join (sL k g1) (sL' k g2)) (le_sl hb sL)
set_option maxRecDepth 100000 in
theorem same_sta {l : List Int} {b b' : Nat} {W : World} {cs ds : Array Value} (hb : BB l) (h : (cs = #[.int .i64 0, .int .i64 0, .int .i64 0, .slice none 0 0, .slice none 0 0, .slice none 0 0, .slice none 0 0, .slice none 0 0] ∧ ds = #[.int .i64 0, .int .i64 0, .int .i64 0, .slice none 0 0, .slice none 0 0, .slice none 0 0, .slice none 0 0, .slice none 0 0]) ∨ (StO l 0 0 b W cs ∧ StO l 0 0 b' W ds)) :
    Calls Try.prog 21 #[.agg cs, .agg ds] W fun e w' => e = .returned (.bool true) ∧ Below W.heap.size W w' := by
  rcases h with ⟨rfl, rfl⟩ | ⟨⟨vQ, vN, vT, vL, vH, yT, yL, rfl, hQ, hN, ⟨hT, sT, mT⟩, ⟨hL, sL, mL⟩, hH⟩, ⟨vQ', vN', vT', vL', vH', yT', yL', rfl, hQ', hN', ⟨hT', sT', mT'⟩, ⟨hL', sL', mL'⟩, hH'⟩⟩
  · exact sstate_any 0 0 0 none none 0 0 0 [] none none 0 0 0 [] none none 0 0 0 [] [] none none 0 0 0 [] [] none none 0 0 0 [] W (noneE Q7.cs_len W) (noneE Q7.cs_len W) (noneE N5.cs_len W) (noneE N5.cs_len W) (noneE T7.cs_len W) (noneE T7.cs_len W) (fun x hx => by cases hx) (fun x hx => by cases hx) (fun k g => absurd g (by simp)) (fun x hx => by cases hx) (noneE Le.cs_len W) (noneE Le.cs_len W) (fun x hx => by cases hx) (fun x hx => by cases hx) (fun k g => absurd g (by simp)) (fun x hx => by cases hx) (noneE H2.cs_len W) (noneE H2.cs_len W)
  · obtain ⟨a1, c1, rfl⟩ := hQ.form
    obtain ⟨a2, c2, rfl⟩ := hN.form
    obtain ⟨a3, c3, rfl⟩ := hT.form
    obtain ⟨a4, c4, rfl⟩ := hL.form
    obtain ⟨a5, c5, rfl⟩ := hH.form
    obtain ⟨b1, d1, rfl⟩ := hQ'.form
    obtain ⟨b2, d2, rfl⟩ := hN'.form
    obtain ⟨b3, d3, rfl⟩ := hT'.form
    obtain ⟨b4, d4, rfl⟩ := hL'.form
    obtain ⟨b5, d5, rfl⟩ := hH'.form
    exact sstate_any _ _ _ a1 b1 _ c1 d1 _ a2 b2 _ c2 d2 _ a3 b3 _ c3 d3 yT yT' a4 b4 _ c4 d4 yL yL' a5 b5 _ c5 d5 _ W (hQ.holds Q7.cs_len) (hQ'.holds Q7.cs_len) (hN.holds N5.cs_len) (hN'.holds N5.cs_len) (hT.holds T7.cs_len) (hT'.holds T7.cs_len) (fun x hx => (mT x hx).holds encN_len) (fun x hx => (mT' x hx).holds encN_len) (fun k g1 g2 => ta_join (sT k g1) (sT' k g2)) (ta_sl hb sT) (hL.holds Le.cs_len) (hL'.holds Le.cs_len) (fun x hx => (mL x hx).holds encN_len) (fun x hx => (mL' x hx).holds encN_len) (fun k g1 g2 => le_join (sL k g1) (sL' k g2)) (le_sl hb sL) (hH.holds H2.cs_len) (hH'.holds H2.cs_len)
end Go.Proofs.Ythkbddnkcljjpaa
