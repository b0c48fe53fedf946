/-
  Contracts of command: the reader's task.
-/
import Derived.Test.YtkjglpgjflkmbaaCW
import Derived.Test.YtkjglpgjflkmbaaCO
namespace Go.Proofs.Ytkjglpgjflkmbaa
open Go.RowKit Go.Deep Go.Maps
set_option linter.unusedVariables false
set_option linter.unusedSimpArgs false

/-- What lies in a block of cells, whole. -/
def Blk (W : World) (Q t : Nat) (cs : Array Value) : Prop := W.heap[Q]? = some (.cells cs t (0, 0))
theorem Blk.alloc (W : World) (cs : Array Value) (t : Nat) : Blk (W.alloc (.cells cs t)) W.heap.size t cs := heap_alloc_new W _
theorem Blk.lt {W : World} {Q t : Nat} {cs : Array Value} (h : Blk W Q t cs) : Q < W.heap.size := (Array.getElem?_eq_some_iff.1 h).1
theorem Blk.rk {p Q t : Nat} {A B : World} {cs : Array Value} (h : Blk A Q t cs) (k : RK p A B) (h1 : Q ≠ p) : Blk B Q t cs := (k.block Q h.lt h1 (by intro e; cases e)).trans h
theorem Blk.below {Q t : Nat} {A B : World} {cs : Array Value} (h : Blk A Q t cs) (k : Below A.heap.size A B) : Blk B Q t cs := (k.block Q h.lt).trans h
theorem Blk.row {Q t : Nat} {A : World} {cs : Array Value} (h : Blk A Q t cs) (ds : Array Value) : Blk (A.setRow Q ds) Q t ds := setRow_heap A Q cs ds t _ h
theorem Blk.range {W : World} {Q t : Nat} {cs : Array Value} (h : Blk W Q t cs) : W.rangeAt Q 0 cs.toList := fun j v hv => by
  rw [Nat.zero_add]
  have h' : W.heap[Q]? = some (.cells cs t (0, 0)) := h
  simp [World.cell?, h']
  simpa using hv
theorem Blk.loadVar {W : World} {Q t ty : Nat} {cs : Array Value} {d : TypeDesc} (h : Blk W Q t cs) (hu : Try.prog.underlying ty = some d) (hd : d.isRow = true) (hi : (Try.prog.info? ty).map (·.size) = some cs.size) : (loadVar ty ⟨Q, 0, none⟩).run Try.prog W = .ok (.agg cs) W := by
  have := run_loadVar_mid (P := Try.prog) W Q 0 ty cs.toList d h.range hu hd (by simpa using hi)
  simpa using this
theorem results_cell {fn : Func} {t : Tmp} {ty : TypeId} (h : fn.results = #[.cell t ty]) {tmps : Array Value} {P : Program} {w : World} {a : Addr} {v : Value} (ht : tmps.getD t undef = .pointer (some a)) (hl : (loadVar ty a).run P w = .ok v w) : (results fn tmps).run P w = .ok v w := by
  rw [Array.getD_eq_getD_getElem?] at ht
  simp [results, h, ht, asAddr, hl]
theorem results_cell3 {fn : Func} {t x y : Tmp} {ty : TypeId} (h : fn.results = #[.cell t ty, .tmp x, .tmp y]) {tmps : Array Value} {P : Program} {w : World} {a : Addr} {v : Value} (ht : tmps.getD t undef = .pointer (some a)) (hl : (loadVar ty a).run P w = .ok v w) : (results fn tmps).run P w = .ok (.tuple #[v, tmps.getD x undef, tmps.getD y undef]) w := by
  rw [Array.getD_eq_getD_getElem?] at ht
  simp [results, h, ht, asAddr, hl]
theorem RK.row {p : Nat} {A B : World} (h : RK p A B) (q : Nat) (cs : Array Value) (hq : A.heap.size ≤ q) : RK p A (B.setRow q cs) :=
  ⟨h.os, h.tape, h.output, by simpa using h.size, fun b hb h1 h2 => (setRow_other B q b cs (by omega)).trans (h.block b hb h1 h2), fun _ e => by cases e⟩
theorem OwnE.row {α : Type} {e : TypeId} {k q : Nat} {enc : α → List Value} {base n : Nat} {l : List α} {v : Value} {w : World} (h : OwnE e k enc base w v n l) (h1 : q < base) (cs : Array Value) : OwnE e k enc base (w.setRow q cs) v n l := by
  obtain ⟨h0, h3, h4⟩ := h
  refine ⟨h0, h3, ?_⟩
  rcases h4 with h4 | ⟨g, cap, cur, hv, hg, hh, r⟩
  · exact .inl h4
  · exact .inr ⟨g, cap, cur, hv, hg, (setRow_other w q g cs (by omega)).trans hh, r⟩
section
variable {ops : Array Oper} {rest : List Oper} {op : Oper} {a : Act} {w : World} {Q : Exit → Act → World → Prop}
theorem wpList_built (hg : op.guard = none) (t : TypeId) (parts : Array (Nat × Operand)) (ho : op.op = .build t parts) (cs : Array Value) (hb : Try.prog.built t (parts.map fun (i, x) => (i, a.eval x)).toList = some cs)
    (h : wpList Try.prog ops Q rest (a.put op.dst (.agg cs)) w) : wpList Try.prog ops Q (op :: rest) a w := by
  refine wpList_build hg t parts ho (by rw [hb]; rfl) ?_
  rw [hb]
  exact h
end

/-- A task that is read: the list of its tickets, the reader behind it, and behind all of it, with the State. -/
def taC (l : List Int) (A E : Int) : Nat := liC (tkI l) l (tkc l A E 4).2.1 (tkc l A E 4).2.2
def taL (l : List Int) (A E : Int) : List Int := liL (tkI l) l (tkc l A E 4).2.1 (tkc l A E 4).2.2
def taB (l : List Int) (A E : Int) : Int × Int := liF (tkI l) l (tkc l A E 4).2.1 (tkc l A E 4).2.2
def taE (l : List Int) (A E : Int) : Int × Int × Int := tkI l (taB l A E).1 (taB l A E).2
theorem taB_at (l : List Int) (A E : Int) (h0 : 0 ≤ A) (h1 : A ≤ l.length) : 0 ≤ (taB l A E).1 ∧ (taB l A E).1 ≤ l.length := by
  have h := tkc_at l A E h0 h1 4
  exact liF_at (fun A E h0 h1 => tkI_at l A E h0 h1) h.1 h.2
theorem taE_at (l : List Int) (A E : Int) (h0 : 0 ≤ A) (h1 : A ≤ l.length) : 0 ≤ (taE l A E).2.1 ∧ (taE l A E).2.1 ≤ l.length := by
  have h := taB_at l A E h0 h1
  exact tkI_at l _ _ h.1 h.2
theorem tkc_add (l : List Int) (A E : Int) (k : Nat) : ∀ j, tkc l (tkc l A E k).2.1 (tkc l A E k).2.2 j = tkc l A E (k + 1 + j)
  | 0 => rfl
  | j + 1 => by
    show tkI l (tkc l (tkc l A E k).2.1 (tkc l A E k).2.2 j).2.1 (tkc l (tkc l A E k).2.1 (tkc l A E k).2.2 j).2.2 = tkI l (tkc l A E (k + 1 + j)).2.1 (tkc l A E (k + 1 + j)).2.2
    rw [tkc_add l A E k j]
set_option maxRecDepth 100000 in
theorem sizeTask : (Try.prog.info? 30).map (·.size) = some 7 := by kernel_rfl
set_option maxRecDepth 100000 in
set_option maxHeartbeats 8000000 in
theorem rdtask_any (p : Nat) (a : Option Addr) (n c : Nat) (l : List Int) (A E : Int) (w : World) (h : RdC w p (.slice a n c) A E) (hl : HoldsB w a n c l) (h0 : 0 ≤ A) (h1 : A ≤ n) (hne : ∀ b o, a = some ⟨b, o, none⟩ → 0 < n → b ≠ p) :
    Calls Try.prog 99 #[.pointer (some ⟨p, 0, none⟩)] w fun e w' => ∃ v, e = .returned (.agg #[.int .i64 (tkc l A E 0).1, .int .i64 (tkc l A E 1).1, .int .i64 (tkc l A E 2).1, .int .i64 (tkc l A E 3).1, .int .i64 (tkc l A E 4).1, v, .int .i64 (taE l A E).1]) ∧ OwnN w.heap.size w' v (taC l A E) (taL l A E) ∧ RdC w' p (.slice a n c) (taE l A E).2.1 (taE l A E).2.2 ∧ RK p w w' := by
  have hlen := hl.1
  have hnm := hl.2.1
  have hP := h.lt
  go_enter Try.func99, Try.ntmps99
  go_upto_region 1 with fail
  have B0 := (Below.refl w.heap.size w).alloc (Nat.le_refl _) (.cells #[.int .i64 0, .int .i64 0, .int .i64 0, .int .i64 0, .int .i64 0, .slice none 0 0, .int .i64 0] 30)
  have H0 := hid (h.below B0)
  have L0 := hid (hl.below B0)
  have K0 : Hid (RK p w (w.alloc (.cells #[.int .i64 0, .int .i64 0, .int .i64 0, .int .i64 0, .int .i64 0, .slice none 0 0, .int .i64 0] 30))) := WK.of_below B0
  have BX := hid (Blk.alloc w #[.int .i64 0, .int .i64 0, .int .i64 0, .int .i64 0, .int .i64 0, .slice none 0 0, .int .i64 0] (30))
  have hQ : w.heap.size ≠ p := by omega
  clear h hl B0
  generalize (w.alloc (.cells #[.int .i64 0, .int .i64 0, .int .i64 0, .int .i64 0, .int .i64 0, .slice none 0 0, .int .i64 0] 30)) = W0 at *
  generalize hq : w.heap.size = QB at *
  have AT := hid (tkc_at l A E h0 (by omega))
  have TB := hid (taB_at l A E h0 (by omega))
  have C0 : Hid (Calls Try.prog 86 #[.pointer (some ⟨p, 0, none⟩)] W0 fun e w' => e = .returned (.int .i64 (tkc l A E 0).1) ∧ RdC w' p (.slice a n c) ((tkc l A E 0).2.1) ((tkc l A E 0).2.2) ∧ RK p W0 w') := by
    exact rint_any p a n c l A E W0 H0.out L0.out ⟨by omega, by omega⟩ hne
  go_wp2_with fail
  with_reducible refine C0.out.mono ?_
  rintro e W1 ⟨rfl, r, k⟩
  have H1 := hid r
  have L1 := hid (k.holds L0.out hne)
  replace BX := hid (BX.out.rk k hQ)
  have K1 := hid (K0.out.trans k)
  clear C0 r k H0 L0 K0
  have C1 : Hid (Calls Try.prog 86 #[.pointer (some ⟨p, 0, none⟩)] W1 fun e w' => e = .returned (.int .i64 (tkc l A E 1).1) ∧ RdC w' p (.slice a n c) ((tkc l A E 1).2.1) ((tkc l A E 1).2.2) ∧ RK p W1 w') := by
    exact rint_any p a n c l (tkc l A E 0).2.1 (tkc l A E 0).2.2 W1 H1.out L1.out ⟨by have := AT.out 0; omega, by have := AT.out 0; omega⟩ hne
  go_wp2_with fail
  with_reducible refine C1.out.mono ?_
  rintro e W2 ⟨rfl, r, k⟩
  have H2 := hid r
  have L2 := hid (k.holds L1.out hne)
  replace BX := hid (BX.out.rk k hQ)
  have K2 := hid (K1.out.trans k)
  clear C1 r k H1 L1 K1
  have C2 : Hid (Calls Try.prog 115 #[.pointer (some ⟨p, 0, none⟩)] W2 fun e w' => e = .returned (.agg #[.int .i64 (tkc l A E 2).1, .int .i64 (tkc l A E 3).1]) ∧ RdC w' p (.slice a n c) ((tkc l A E 3).2.1) ((tkc l A E 3).2.2) ∧ RK p W2 w') := by
    exact rvec_any p a n c l (tkc l A E 1).2.1 (tkc l A E 1).2.2 W2 H2.out L2.out (by have := AT.out 1; omega) (by have := AT.out 1; omega) hne
  go_wp2_with fail
  with_reducible refine C2.out.mono ?_
  rintro e W3 ⟨rfl, r, k⟩
  have H3 := hid r
  have L3 := hid (k.holds L2.out hne)
  replace BX := hid (BX.out.rk k hQ)
  have K3 := hid (K2.out.trans k)
  clear C2 r k H2 L2 K2
  have C3 : Hid (Calls Try.prog 86 #[.pointer (some ⟨p, 0, none⟩)] W3 fun e w' => e = .returned (.int .i64 (tkc l A E 4).1) ∧ RdC w' p (.slice a n c) ((tkc l A E 4).2.1) ((tkc l A E 4).2.2) ∧ RK p W3 w') := by
    exact rint_any p a n c l (tkc l A E 3).2.1 (tkc l A E 3).2.2 W3 H3.out L3.out ⟨by have := AT.out 3; omega, by have := AT.out 3; omega⟩ hne
  go_wp2_with fail
  with_reducible refine C3.out.mono ?_
  rintro e W4 ⟨rfl, r, k⟩
  have H4 := hid r
  have L4 := hid (k.holds L3.out hne)
  replace BX := hid (BX.out.rk k hQ)
  have K4 := hid (K3.out.trans k)
  clear C3 r k H3 L3 K3
  have C4 : Hid (Calls Try.prog 90 #[.pointer (some ⟨p, 0, none⟩), .func (.func 86) #[.pointer (some ⟨p, 0, none⟩)] #[]] W4 fun e w' => ∃ v, e = .returned v ∧ OwnN W4.heap.size w' v (taC l A E) (taL l A E) ∧ RdC w' p (.slice a n c) ((taB l A E).1) ((taB l A E).2) ∧ RK p W4 w') := by
    exact listI_any p a n c l (tkc l A E 4).2.1 (tkc l A E 4).2.2 W4 H4.out L4.out (by have := AT.out 4; omega) (by have := AT.out 4; omega) hne
  go_wp2_with fail
  with_reducible refine C4.out.mono ?_
  rintro e W5 ⟨v, rfl, ow, r, k⟩
  have H5 := hid r
  have L5 := hid (k.holds L4.out hne)
  have OW := hid (ow.weaken (b' := QB + 1) (by have := BX.out.lt; omega))
  clear ow
  replace BX := hid (BX.out.rk k hQ)
  have K5 := hid (K4.out.trans k)
  clear C4 r k H4 L4 K4
  have C5 : Hid (Calls Try.prog 86 #[.pointer (some ⟨p, 0, none⟩)] W5 fun e w' => e = .returned (.int .i64 (taE l A E).1) ∧ RdC w' p (.slice a n c) ((taE l A E).2.1) ((taE l A E).2.2) ∧ RK p W5 w') := by
    exact rint_any p a n c l (taB l A E).1 (taB l A E).2 W5 H5.out L5.out ⟨by have := TB.out; omega, by have := TB.out; omega⟩ hne
  go_wp2_with fail
  with_reducible refine C5.out.mono ?_
  rintro e W6 ⟨rfl, r, k⟩
  have H6 := hid r
  have L6 := hid (k.holds L5.out hne)
  replace OW := hid (OW.out.rk k (by omega))
  replace BX := hid (BX.out.rk k hQ)
  have K6 := hid (K5.out.trans k)
  clear C5 r k H5 L5 K5
  obtain ⟨va, vc, rfl⟩ := OW.out.form
  generalize hx0 : (tkc l A E 0).1 = x0 at *
  have X0 := hid hx0
  clear hx0
  generalize hx1 : (tkc l A E 1).1 = x1 at *
  have X1 := hid hx1
  clear hx1
  generalize hx2 : (tkc l A E 2).1 = x2 at *
  have X2 := hid hx2
  clear hx2
  generalize hx3 : (tkc l A E 3).1 = x3 at *
  have X3 := hid hx3
  clear hx3
  generalize hx4 : (tkc l A E 4).1 = x4 at *
  have X4 := hid hx4
  clear hx4
  generalize hx6 : (taE l A E).1 = x6 at *
  have X6 := hid hx6
  clear hx6
  have BH := BX.out
  unfold Blk at BH
  go_wp2_with (first | refine wpList_built rfl 30 _ rfl #[.int .i64 x0, .int .i64 x1, .int .i64 x2, .int .i64 x3, .int .i64 x4, .slice va (taC l A E) vc, .int .i64 x6] (by kernel_rfl) ?_ | refine wpList_store_row rfl 30 (.tmp 2) (.tmp 17) rfl QB #[.int .i64 x0, .int .i64 x1, .int .i64 x2, .int .i64 x3, .int .i64 x4, .slice va (taC l A E) vc, .int .i64 x6] rfl rfl 30 _ BH sizeTask rfl (by simp [Value.oneCell']) ?_)
  clear BH
  refine bodyPost_ret (results_cell rfl rfl ((BX.out.row #[.int .i64 x0, .int .i64 x1, .int .i64 x2, .int .i64 x3, .int .i64 x4, .slice va (taC l A E) vc, .int .i64 x6]).loadVar Try.underlying30 rfl sizeTask)) rfl ?_
  refine ⟨_, by rw [X0.out, X1.out, X2.out, X3.out, X4.out, X6.out], (OW.out.row (by omega) _).weaken (by omega), H6.out.same (setRow_other _ _ _ _ (fun e => hQ e.symm)), K6.out.row _ _ (by omega)⟩
end Go.Proofs.Ytkjglpgjflkmbaa
