/-
  Contracts of command: the reader's task.
  Contracts of command: the reader's command.
  Contracts of command: the reader's entry.
  Contracts of command: an entry is decoded.
-/
import Derived.Test.YthkbddnkcljjpaaMCR
namespace Go.Proofs.Ythkbddnkcljjpaa
open Go.RowKit Go.Deep Go.Maps
set_option linter.unusedVariables false
set_option linter.unusedSimpArgs false

/-- What lies in a block of cells, whole. -/
def Blk (W : World) (Q t : Nat) (cs : Array Value) : Prop := W.heap[Q]? = some (.cells cs t (0, 0))
theorem Blk.alloc (W : World) (cs : Array Value) (t : Nat) : Blk (W.alloc (.cells cs t)) W.heap.size t cs := heap_alloc_new W _
theorem Blk.lt {W : World} {Q t : Nat} {cs : Array Value} (h : Blk W Q t cs) : Q < W.heap.size := (Array.getElem?_eq_some_iff.1 h).1
theorem Blk.rk {p Q t : Nat} {A B : World} {cs : Array Value} (h : Blk A Q t cs) (k : RK p A B) (h1 : Q ≠ p) : Blk B Q t cs := (k.block Q h.lt h1 (by intro e; cases e)).trans h
theorem Blk.below {Q t : Nat} {A B : World} {cs : Array Value} (h : Blk A Q t cs) (k : Below A.heap.size A B) : Blk B Q t cs := (k.block Q h.lt).trans h
theorem Blk.row {Q t : Nat} {A : World} {cs : Array Value} (h : Blk A Q t cs) (ds : Array Value) : Blk (A.setRow Q ds) Q t ds := setRow_heap A Q cs ds t _ h
theorem Blk.range {W : World} {Q t : Nat} {cs : Array Value} (h : Blk W Q t cs) : W.rangeAt Q 0 cs.toList := fun j v hv => by
  rw [Nat.zero_add]
  have h' : W.heap[Q]? = some (.cells cs t (0, 0)) := h
  simp [World.cell?, h']
  simpa using hv
theorem Blk.loadVar {W : World} {Q t ty : Nat} {cs : Array Value} {d : TypeDesc} (h : Blk W Q t cs) (hu : Try.prog.underlying ty = some d) (hd : d.isRow = true) (hi : (Try.prog.info? ty).map (·.size) = some cs.size) : (loadVar ty ⟨Q, 0, none⟩).run Try.prog W = .ok (.agg cs) W := by
  have := run_loadVar_mid (P := Try.prog) W Q 0 ty cs.toList d h.range hu hd (by simpa using hi)
  simpa using this
theorem results_cell {fn : Func} {t : Tmp} {ty : TypeId} (h : fn.results = #[.cell t ty]) {tmps : Array Value} {P : Program} {w : World} {a : Addr} {v : Value} (ht : tmps.getD t undef = .pointer (some a)) (hl : (loadVar ty a).run P w = .ok v w) : (results fn tmps).run P w = .ok v w := by
  rw [Array.getD_eq_getD_getElem?] at ht
  simp [results, h, ht, asAddr, hl]
theorem results_cell3 {fn : Func} {t x y : Tmp} {ty : TypeId} (h : fn.results = #[.cell t ty, .tmp x, .tmp y]) {tmps : Array Value} {P : Program} {w : World} {a : Addr} {v : Value} (ht : tmps.getD t undef = .pointer (some a)) (hl : (loadVar ty a).run P w = .ok v w) : (results fn tmps).run P w = .ok (.tuple #[v, tmps.getD x undef, tmps.getD y undef]) w := by
  rw [Array.getD_eq_getD_getElem?] at ht
  simp [results, h, ht, asAddr, hl]
theorem RK.row {p : Nat} {A B : World} (h : RK p A B) (q : Nat) (cs : Array Value) (hq : A.heap.size ≤ q) : RK p A (B.setRow q cs) :=
  ⟨h.os, h.tape, h.output, by simpa using h.size, fun b hb h1 h2 => (setRow_other B q b cs (by omega)).trans (h.block b hb h1 h2), fun _ e => by cases e⟩
theorem OwnE.row {α : Type} {e : TypeId} {k q : Nat} {enc : α → List Value} {base n : Nat} {l : List α} {v : Value} {w : World} (h : OwnE e k enc base w v n l) (h1 : q < base) (cs : Array Value) : OwnE e k enc base (w.setRow q cs) v n l := by
  obtain ⟨h0, h3, h4⟩ := h
  refine ⟨h0, h3, ?_⟩
  rcases h4 with h4 | ⟨g, cap, cur, hv, hg, hh, r⟩
  · exact .inl h4
  · exact .inr ⟨g, cap, cur, hv, hg, (setRow_other w q g cs (by omega)).trans hh, r⟩
section
variable {ops : Array Oper} {rest : List Oper} {op : Oper} {a : Act} {w : World} {Q : Exit → Act → World → Prop}
theorem wpList_built (hg : op.guard = none) (t : TypeId) (parts : Array (Nat × Operand)) (ho : op.op = .build t parts) (cs : Array Value) (hb : Try.prog.built t (parts.map fun (i, x) => (i, a.eval x)).toList = some cs)
    (h : wpList Try.prog ops Q rest (a.put op.dst (.agg cs)) w) : wpList Try.prog ops Q (op :: rest) a w := by
  refine wpList_build hg t parts ho (by rw [hb]; rfl) ?_
  rw [hb]
  exact h
end

/-- A task that is read: the list of its tickets, the reader behind it, and behind all of it, with the State. -/
def taC (l : List Int) (A E : Int) : Nat := liC (tkI l) l (tkc l A E 4).2.1 (tkc l A E 4).2.2
def taL (l : List Int) (A E : Int) : List Int := liL (tkI l) l (tkc l A E 4).2.1 (tkc l A E 4).2.2
def taB (l : List Int) (A E : Int) : Int × Int := liF (tkI l) l (tkc l A E 4).2.1 (tkc l A E 4).2.2
def taE (l : List Int) (A E : Int) : Int × Int × Int := tkI l (taB l A E).1 (taB l A E).2
theorem taB_at (l : List Int) (A E : Int) (h0 : 0 ≤ A) (h1 : A ≤ l.length) : 0 ≤ (taB l A E).1 ∧ (taB l A E).1 ≤ l.length := by
  have h := tkc_at l A E h0 h1 4
  exact liF_at (fun A E h0 h1 => tkI_at l A E h0 h1) h.1 h.2
theorem taE_at (l : List Int) (A E : Int) (h0 : 0 ≤ A) (h1 : A ≤ l.length) : 0 ≤ (taE l A E).2.1 ∧ (taE l A E).2.1 ≤ l.length := by
  have h := taB_at l A E h0 h1
  exact tkI_at l _ _ h.1 h.2
theorem tkc_add (l : List Int) (A E : Int) (k : Nat) : ∀ j, tkc l (tkc l A E k).2.1 (tkc l A E k).2.2 j = tkc l A E (k + 1 + j)
  | 0 => rfl
  | j + 1 => by
    show tkI l (tkc l (tkc l A E k).2.1 (tkc l A E k).2.2 j).2.1 (tkc l (tkc l A E k).2.1 (tkc l A E k).2.2 j).2.2 = tkI l (tkc l A E (k + 1 + j)).2.1 (tkc l A E (k + 1 + j)).2.2
    rw [tkc_add l A E k j]
set_option maxRecDepth 100000 in
theorem sizeTask : (Try.prog.info? 30).map (·.size) = some 7 := by kernel_rfl
set_option maxRecDepth 100000 in
set_option maxHeartbeats 8000000 in
theorem rdtask_any (p : Nat) (a : Option Addr) (n c : Nat) (l : List Int) (A E : Int) (w : World) (h : RdC w p (.slice a n c) A E) (hl : HoldsB w a n c l) (h0 : 0 ≤ A) (h1 : A ≤ n) (hne : ∀ b o, a = some ⟨b, o, none⟩ → 0 < n → b ≠ p) :
    Calls Try.prog 99 #[.pointer (some ⟨p, 0, none⟩)] w fun e w' => ∃ v, e = .returned (.agg #[.int .i64 (tkc l A E 0).1, .int .i64 (tkc l A E 1).1, .int .i64 (tkc l A E 2).1, .int .i64 (tkc l A E 3).1, .int .i64 (tkc l A E 4).1, v, .int .i64 (taE l A E).1]) ∧ OwnN w.heap.size w' v (taC l A E) (taL l A E) ∧ RdC w' p (.slice a n c) (taE l A E).2.1 (taE l A E).2.2 ∧ RK p w w' := by
  have hlen := hl.1
  have hnm := hl.2.1
  have hP := h.lt
  go_enter Try.func99, Try.ntmps99
  go_upto_region 1 with fail
  have B0 := (Below.refl w.heap.size w).alloc (Nat.le_refl _) (.cells #[.int .i64 0, .int .i64 0, .int .i64 0, .int .i64 0, .int .i64 0, .slice none 0 0, .int .i64 0] 30)
  have H0 := hid (h.below B0)
  have L0 := hid (hl.below B0)
  have K0 : Hid (RK p w (w.alloc (.cells #[.int .i64 0, .int .i64 0, .int .i64 0, .int .i64 0, .int .i64 0, .slice none 0 0, .int .i64 0] 30))) := WK.of_below B0
  have BX := hid (Blk.alloc w #[.int .i64 0, .int .i64 0, .int .i64 0, .int .i64 0, .int .i64 0, .slice none 0 0, .int .i64 0] (30))
  have hQ : w.heap.size ≠ p := by omega
  clear h hl B0
  generalize (w.alloc (.cells #[.int .i64 0, .int .i64 0, .int .i64 0, .int .i64 0, .int .i64 0, .slice none 0 0, .int .i64 0] 30)) = W0 at *
  generalize hq : w.heap.size = QB at *
  have AT := hid (tkc_at l A E h0 (by omega))
  have TB := hid (taB_at l A E h0 (by omega))
  have C0 : Hid (Calls Try.prog 86 #[.pointer (some ⟨p, 0, none⟩)] W0 fun e w' => e = .returned (.int .i64 (tkc l A E 0).1) ∧ RdC w' p (.slice a n c) ((tkc l A E 0).2.1) ((tkc l A E 0).2.2) ∧ RK p W0 w') := by
    exact rint_any p a n c l A E W0 H0.out L0.out ⟨by omega, by omega⟩ hne
  go_wp2_with fail
  with_reducible refine C0.out.mono ?_
  rintro e W1 ⟨rfl, r, k⟩
  have H1 := hid r
  have L1 := hid (k.holds L0.out hne)
  replace BX := hid (BX.out.rk k hQ)
  have K1 := hid (K0.out.trans k)
  clear C0 r k H0 L0 K0
  have C1 : Hid (Calls Try.prog 86 #[.pointer (some ⟨p, 0, none⟩)] W1 fun e w' => e = .returned (.int .i64 (tkc l A E 1).1) ∧ RdC w' p (.slice a n c) ((tkc l A E 1).2.1) ((tkc l A E 1).2.2) ∧ RK p W1 w') := by
    exact rint_any p a n c l (tkc l A E 0).2.1 (tkc l A E 0).2.2 W1 H1.out L1.out ⟨by have := AT.out 0; omega, by have := AT.out 0; omega⟩ hne
  go_wp2_with fail
  with_reducible refine C1.out.mono ?_
  rintro e W2 ⟨rfl, r, k⟩
  have H2 := hid r
  have L2 := hid (k.holds L1.out hne)
  replace BX := hid (BX.out.rk k hQ)
  have K2 := hid (K1.out.trans k)
  clear C1 r k H1 L1 K1
  have C2 : Hid (Calls Try.prog 115 #[.pointer (some ⟨p, 0, none⟩)] W2 fun e w' => e = .returned (.agg #[.int .i64 (tkc l A E 2).1, .int .i64 (tkc l A E 3).1]) ∧ RdC w' p (.slice a n c) ((tkc l A E 3).2.1) ((tkc l A E 3).2.2) ∧ RK p W2 w') := by
    exact rvec_any p a n c l (tkc l A E 1).2.1 (tkc l A E 1).2.2 W2 H2.out L2.out (by have := AT.out 1; omega) (by have := AT.out 1; omega) hne
  go_wp2_with fail
  with_reducible refine C2.out.mono ?_
  rintro e W3 ⟨rfl, r, k⟩
  have H3 := hid r
  have L3 := hid (k.holds L2.out hne)
  replace BX := hid (BX.out.rk k hQ)
  have K3 := hid (K2.out.trans k)
  clear C2 r k H2 L2 K2
  have C3 : Hid (Calls Try.prog 86 #[.pointer (some ⟨p, 0, none⟩)] W3 fun e w' => e = .returned (.int .i64 (tkc l A E 4).1) ∧ RdC w' p (.slice a n c) ((tkc l A E 4).2.1) ((tkc l A E 4).2.2) ∧ RK p W3 w') := by
    exact rint_any p a n c l (tkc l A E 3).2.1 (tkc l A E 3).2.2 W3 H3.out L3.out ⟨by have := AT.out 3; omega, by have := AT.out 3; omega⟩ hne
  go_wp2_with fail
  with_reducible refine C3.out.mono ?_
  rintro e W4 ⟨rfl, r, k⟩
  have H4 := hid r
  have L4 := hid (k.holds L3.out hne)
  replace BX := hid (BX.out.rk k hQ)
  have K4 := hid (K3.out.trans k)
  clear C3 r k H3 L3 K3
  have C4 : Hid (Calls Try.prog 90 #[.pointer (some ⟨p, 0, none⟩), .func (.func 86) #[.pointer (some ⟨p, 0, none⟩)] #[]] W4 fun e w' => ∃ v, e = .returned v ∧ OwnN W4.heap.size w' v (taC l A E) (taL l A E) ∧ RdC w' p (.slice a n c) ((taB l A E).1) ((taB l A E).2) ∧ RK p W4 w') := by
    exact listI_any p a n c l (tkc l A E 4).2.1 (tkc l A E 4).2.2 W4 H4.out L4.out (by have := AT.out 4; omega) (by have := AT.out 4; omega) hne
  go_wp2_with fail
  with_reducible refine C4.out.mono ?_
  rintro e W5 ⟨v, rfl, ow, r, k⟩
  have H5 := hid r
  have L5 := hid (k.holds L4.out hne)
  have OW := hid (ow.weaken (b' := QB + 1) (by have := BX.out.lt; omega))
  clear ow
  replace BX := hid (BX.out.rk k hQ)
  have K5 := hid (K4.out.trans k)
  clear C4 r k H4 L4 K4
  have C5 : Hid (Calls Try.prog 86 #[.pointer (some ⟨p, 0, none⟩)] W5 fun e w' => e = .returned (.int .i64 (taE l A E).1) ∧ RdC w' p (.slice a n c) ((taE l A E).2.1) ((taE l A E).2.2) ∧ RK p W5 w') := by
    exact rint_any p a n c l (taB l A E).1 (taB l A E).2 W5 H5.out L5.out ⟨by have := TB.out; omega, by have := TB.out; omega⟩ hne
  go_wp2_with fail
  with_reducible refine C5.out.mono ?_
  rintro e W6 ⟨rfl, r, k⟩
  have H6 := hid r
  have L6 := hid (k.holds L5.out hne)
  replace OW := hid (OW.out.rk k (by omega))
  replace BX := hid (BX.out.rk k hQ)
  have K6 := hid (K5.out.trans k)
  clear C5 r k H5 L5 K5
  obtain ⟨va, vc, rfl⟩ := OW.out.form
  generalize hx0 : (tkc l A E 0).1 = x0 at *
  have X0 := hid hx0
  clear hx0
  generalize hx1 : (tkc l A E 1).1 = x1 at *
  have X1 := hid hx1
  clear hx1
  generalize hx2 : (tkc l A E 2).1 = x2 at *
  have X2 := hid hx2
  clear hx2
  generalize hx3 : (tkc l A E 3).1 = x3 at *
  have X3 := hid hx3
  clear hx3
  generalize hx4 : (tkc l A E 4).1 = x4 at *
  have X4 := hid hx4
  clear hx4
  generalize hx6 : (taE l A E).1 = x6 at *
  have X6 := hid hx6
  clear hx6
  have BH := BX.out
  unfold Blk at BH
  go_wp2_with (first | refine wpList_built rfl 30 _ rfl #[.int .i64 x0, .int .i64 x1, .int .i64 x2, .int .i64 x3, .int .i64 x4, .slice va (taC l A E) vc, .int .i64 x6] (by kernel_rfl) ?_ | refine wpList_store_row rfl 30 (.tmp 2) (.tmp 17) rfl QB #[.int .i64 x0, .int .i64 x1, .int .i64 x2, .int .i64 x3, .int .i64 x4, .slice va (taC l A E) vc, .int .i64 x6] rfl rfl 30 _ BH sizeTask rfl (by simp [Value.oneCell']) ?_)
  clear BH
  refine bodyPost_ret (results_cell rfl rfl ((BX.out.row #[.int .i64 x0, .int .i64 x1, .int .i64 x2, .int .i64 x3, .int .i64 x4, .slice va (taC l A E) vc, .int .i64 x6]).loadVar Try.underlying30 rfl sizeTask)) rfl ?_
  refine ⟨_, by rw [X0.out, X1.out, X2.out, X3.out, X4.out, X6.out], (OW.out.row (by omega) _).weaken (by omega), H6.out.same (setRow_other _ _ _ _ (fun e => hQ e.symm)), K6.out.row _ _ (by omega)⟩
end Go.Proofs.Ythkbddnkcljjpaa

namespace Go.Proofs.Ythkbddnkcljjpaa
open Go.RowKit Go.Deep Go.Maps
set_option linter.unusedVariables false
set_option linter.unusedSimpArgs false

/-- A command that is read: its Kind, its numbers, and behind all of it. -/
def cmK (l : List Int) (A E : Int) : Int × Int × Int := upT l A E 9223372036854775807 4
def cmN (l : List Int) (A E : Int) (k : Nat) : Int × Int × Int := tkc l (cmK l A E).2.1 (cmK l A E).2.2 k
def cmC (l : List Int) (A E : Int) : Nat := taC l (cmN l A E 15).2.1 (cmN l A E 15).2.2
def cmL (l : List Int) (A E : Int) : List Int := taL l (cmN l A E 15).2.1 (cmN l A E 15).2.2
def cmE (l : List Int) (A E : Int) : Int × Int × Int := taE l (cmN l A E 15).2.1 (cmN l A E 15).2.2
theorem cmK_at (l : List Int) (A E : Int) (h0 : 0 ≤ A) (h1 : A ≤ l.length) : 0 ≤ (cmK l A E).2.1 ∧ (cmK l A E).2.1 ≤ l.length := upT_at l A E _ _ h0 h1
theorem cmK_bd (l : List Int) (A E : Int) (hb : BB l) : 0 ≤ (cmK l A E).1 ∧ (cmK l A E).1 ≤ 9223372036854775807 := upT_bd l A E _ _ hb (by omega)
theorem cmN_at (l : List Int) (A E : Int) (h0 : 0 ≤ A) (h1 : A ≤ l.length) (k : Nat) : 0 ≤ (cmN l A E k).2.1 ∧ (cmN l A E k).2.1 ≤ l.length := by
  have h := cmK_at l A E h0 h1
  exact tkc_at l _ _ h.1 h.2 k
theorem cmE_at (l : List Int) (A E : Int) (h0 : 0 ≤ A) (h1 : A ≤ l.length) : 0 ≤ (cmE l A E).2.1 ∧ (cmE l A E).2.1 ≤ l.length := by
  have h := cmN_at l A E h0 h1 15
  exact taE_at l _ _ h.1 h.2
theorem cmN_add (l : List Int) (A E : Int) (k j : Nat) : tkc l (cmN l A E k).2.1 (cmN l A E k).2.2 j = cmN l A E (k + 1 + j) := tkc_add l _ _ k j
theorem cmN_next (l : List Int) (A E : Int) (k : Nat) : tkI l (cmN l A E k).2.1 (cmN l A E k).2.2 = cmN l A E (k + 1) := rfl
theorem cmN_zero (l : List Int) (A E : Int) : tkI l (cmK l A E).2.1 (cmK l A E).2.2 = cmN l A E 0 := rfl
set_option maxRecDepth 100000 in
theorem sizeCmd' : (Try.prog.info? 32).map (·.size) = some 24 := by kernel_rfl
set_option maxRecDepth 100000 in
set_option maxHeartbeats 8000000 in
theorem rdcommand_any (p : Nat) (a : Option Addr) (n c : Nat) (l : List Int) (A E : Int) (w : World) (h : RdC w p (.slice a n c) A E) (hl : HoldsB w a n c l) (h0 : 0 ≤ A) (h1 : A ≤ n) (hne : ∀ b o, a = some ⟨b, o, none⟩ → 0 < n → b ≠ p) :
    Calls Try.prog 87 #[.pointer (some ⟨p, 0, none⟩)] w fun e w' => ∃ v, e = .returned (.agg #[.int .i64 (cmK l A E).1, .int .i64 (cmN l A E 0).1, .int .i64 (cmN l A E 1).1, .int .i64 (cmN l A E 2).1, .int .i64 (cmN l A E 3).1, .int .i64 (cmN l A E 4).1, .int .i64 (cmN l A E 5).1, .int .i64 (cmN l A E 6).1, .int .i64 (cmN l A E 7).1, .int .i64 (cmN l A E 8).1, .int .i64 (cmN l A E 9).1, .int .i64 (cmN l A E 10).1, .int .i64 (cmN l A E 11).1, .int .i64 (cmN l A E 12).1, .int .i64 (cmN l A E 13).1, .int .i64 (cmN l A E 14).1, .int .i64 (cmN l A E 15).1, .int .i64 (cmN l A E 16).1, .int .i64 (cmN l A E 17).1, .int .i64 (cmN l A E 18).1, .int .i64 (cmN l A E 19).1, .int .i64 (cmN l A E 20).1, v, .int .i64 (cmE l A E).1]) ∧ OwnN w.heap.size w' v (cmC l A E) (cmL l A E) ∧ RdC w' p (.slice a n c) (cmE l A E).2.1 (cmE l A E).2.2 ∧ RK p w w' := by
  have hlen := hl.1
  have HBB := hid hl.2.2.2.2.1
  have hnm := hl.2.1
  have hP := h.lt
  go_enter Try.func87, Try.ntmps87
  go_upto_region 1 with fail
  have B0 := (Below.refl w.heap.size w).alloc (Nat.le_refl _) (.cells #[.int .i64 0, .int .i64 0, .int .i64 0, .int .i64 0, .int .i64 0, .int .i64 0, .int .i64 0, .int .i64 0, .int .i64 0, .int .i64 0, .int .i64 0, .int .i64 0, .int .i64 0, .int .i64 0, .int .i64 0, .int .i64 0, .int .i64 0, .int .i64 0, .int .i64 0, .int .i64 0, .int .i64 0, .int .i64 0, .slice none 0 0, .int .i64 0] 32)
  have H0 := hid (h.below B0)
  have L0 := hid (hl.below B0)
  have K0 : Hid (RK p w (w.alloc (.cells #[.int .i64 0, .int .i64 0, .int .i64 0, .int .i64 0, .int .i64 0, .int .i64 0, .int .i64 0, .int .i64 0, .int .i64 0, .int .i64 0, .int .i64 0, .int .i64 0, .int .i64 0, .int .i64 0, .int .i64 0, .int .i64 0, .int .i64 0, .int .i64 0, .int .i64 0, .int .i64 0, .int .i64 0, .int .i64 0, .slice none 0 0, .int .i64 0] 32))) := WK.of_below B0
  have BX := hid (Blk.alloc w #[.int .i64 0, .int .i64 0, .int .i64 0, .int .i64 0, .int .i64 0, .int .i64 0, .int .i64 0, .int .i64 0, .int .i64 0, .int .i64 0, .int .i64 0, .int .i64 0, .int .i64 0, .int .i64 0, .int .i64 0, .int .i64 0, .int .i64 0, .int .i64 0, .int .i64 0, .int .i64 0, .int .i64 0, .int .i64 0, .slice none 0 0, .int .i64 0] (32))
  have hQ : w.heap.size ≠ p := by omega
  clear h hl B0
  generalize (w.alloc (.cells #[.int .i64 0, .int .i64 0, .int .i64 0, .int .i64 0, .int .i64 0, .int .i64 0, .int .i64 0, .int .i64 0, .int .i64 0, .int .i64 0, .int .i64 0, .int .i64 0, .int .i64 0, .int .i64 0, .int .i64 0, .int .i64 0, .int .i64 0, .int .i64 0, .int .i64 0, .int .i64 0, .int .i64 0, .int .i64 0, .slice none 0 0, .int .i64 0] 32)) = W0 at *
  generalize hq : w.heap.size = QB at *
  have KT := hid (cmK_at l A E h0 (by omega))
  have KB := hid (cmK_bd l A E HBB.out)
  have AT := hid (cmN_at l A E h0 (by omega))
  have C0 : Hid (Calls Try.prog 109 #[.pointer (some ⟨p, 0, none⟩), .int .u64 9223372036854775807, .int .i64 4] W0 fun e w' => e = .returned (.int .u64 (cmK l A E).1) ∧ RdC w' p (.slice a n c) ((cmK l A E).2.1) ((cmK l A E).2.2) ∧ RK p W0 w') := by
    exact upto_any p a n c l A E 9223372036854775807 4 W0 H0.out L0.out ⟨by omega, by omega⟩ (by omega) hne
  go_wp2_with fail
  with_reducible refine C0.out.mono ?_
  rintro e W1 ⟨rfl, r, k⟩
  have H1 := hid r
  have L1 := hid (k.holds L0.out hne)
  replace BX := hid (BX.out.rk k hQ)
  have K1 := hid (K0.out.trans k)
  clear C0 r k H0 L0 K0
  generalize hk : (cmK l A E).1 = kd at *
  have XK := hid hk
  clear hk
  obtain ⟨kd0, kd1⟩ := KB.out
  have C1 : Hid (Calls Try.prog 86 #[.pointer (some ⟨p, 0, none⟩)] W1 fun e w' => e = .returned (.int .i64 (cmN l A E 0).1) ∧ RdC w' p (.slice a n c) ((cmN l A E 0).2.1) ((cmN l A E 0).2.2) ∧ RK p W1 w') := by
    exact rint_any p a n c l (cmK l A E).2.1 (cmK l A E).2.2 W1 H1.out L1.out ⟨by have := KT.out; omega, by have := KT.out; omega⟩ hne
  go_wp2_with fail
  with_reducible refine C1.out.mono ?_
  rintro e W2 ⟨rfl, r, k⟩
  have H2 := hid r
  have L2 := hid (k.holds L1.out hne)
  replace BX := hid (BX.out.rk k hQ)
  have K2 := hid (K1.out.trans k)
  clear C1 r k H1 L1 K1
  have C2 : Hid (Calls Try.prog 86 #[.pointer (some ⟨p, 0, none⟩)] W2 fun e w' => e = .returned (.int .i64 (cmN l A E 1).1) ∧ RdC w' p (.slice a n c) ((cmN l A E 1).2.1) ((cmN l A E 1).2.2) ∧ RK p W2 w') := by
    exact rint_any p a n c l (cmN l A E 0).2.1 (cmN l A E 0).2.2 W2 H2.out L2.out ⟨by have := AT.out 0; omega, by have := AT.out 0; omega⟩ hne
  go_wp2_with fail
  with_reducible refine C2.out.mono ?_
  rintro e W3 ⟨rfl, r, k⟩
  have H3 := hid r
  have L3 := hid (k.holds L2.out hne)
  replace BX := hid (BX.out.rk k hQ)
  have K3 := hid (K2.out.trans k)
  clear C2 r k H2 L2 K2
  have C3 : Hid (Calls Try.prog 86 #[.pointer (some ⟨p, 0, none⟩)] W3 fun e w' => e = .returned (.int .i64 (cmN l A E 2).1) ∧ RdC w' p (.slice a n c) ((cmN l A E 2).2.1) ((cmN l A E 2).2.2) ∧ RK p W3 w') := by
    exact rint_any p a n c l (cmN l A E 1).2.1 (cmN l A E 1).2.2 W3 H3.out L3.out ⟨by have := AT.out 1; omega, by have := AT.out 1; omega⟩ hne
  go_wp2_with fail
  with_reducible refine C3.out.mono ?_
  rintro e W4 ⟨rfl, r, k⟩
  have H4 := hid r
  have L4 := hid (k.holds L3.out hne)
  replace BX := hid (BX.out.rk k hQ)
  have K4 := hid (K3.out.trans k)
  clear C3 r k H3 L3 K3
  have C4 : Hid (Calls Try.prog 85 #[.pointer (some ⟨p, 0, none⟩)] W4 fun e w' => e = .returned (.int .i64 (cmN l A E 3).1) ∧ RdC w' p (.slice a n c) ((cmN l A E 3).2.1) ((cmN l A E 3).2.2) ∧ RK p W4 w') := by
    exact rint64_any p a n c l (cmN l A E 2).2.1 (cmN l A E 2).2.2 W4 H4.out L4.out ⟨by have := AT.out 2; omega, by have := AT.out 2; omega⟩ hne
  go_wp2_with fail
  with_reducible refine C4.out.mono ?_
  rintro e W5 ⟨rfl, r, k⟩
  have H5 := hid r
  have L5 := hid (k.holds L4.out hne)
  replace BX := hid (BX.out.rk k hQ)
  have K5 := hid (K4.out.trans k)
  clear C4 r k H4 L4 K4
  have C5 : Hid (Calls Try.prog 95 #[.pointer (some ⟨p, 0, none⟩)] W5 fun e w' => e = .returned (.agg #[.int .i64 (cmN l A E 4).1, .int .i64 (cmN l A E 5).1, .int .i64 (cmN l A E 6).1, .int .i64 (cmN l A E 7).1, .int .i64 (cmN l A E 8).1, .int .i64 (cmN l A E 9).1, .int .i64 (cmN l A E 10).1]) ∧ RdC w' p (.slice a n c) ((cmN l A E 10).2.1) ((cmN l A E 10).2.2) ∧ RK p W5 w') := by
    have z := rdqueue_any p a n c l (cmN l A E 3).2.1 (cmN l A E 3).2.2 W5 H5.out L5.out (by have := AT.out 3; omega) (by have := AT.out 3; omega) hne
    simp only [cmN_add, Nat.reduceAdd] at z
    exact z
  go_wp2_with fail
  with_reducible refine C5.out.mono ?_
  rintro e W6 ⟨rfl, r, k⟩
  have H6 := hid r
  have L6 := hid (k.holds L5.out hne)
  replace BX := hid (BX.out.rk k hQ)
  have K6 := hid (K5.out.trans k)
  clear C5 r k H5 L5 K5
  have C6 : Hid (Calls Try.prog 97 #[.pointer (some ⟨p, 0, none⟩)] W6 fun e w' => e = .returned (.agg #[.int .i64 (cmN l A E 11).1, .int .i64 (cmN l A E 12).1, .int .i64 (cmN l A E 13).1, .int .i64 (cmN l A E 14).1, .int .i64 (cmN l A E 15).1]) ∧ RdC w' p (.slice a n c) ((cmN l A E 15).2.1) ((cmN l A E 15).2.2) ∧ RK p W6 w') := by
    have z := rdnode_any p a n c l (cmN l A E 10).2.1 (cmN l A E 10).2.2 W6 H6.out L6.out (by have := AT.out 10; omega) (by have := AT.out 10; omega) hne
    simp only [cmN_add, Nat.reduceAdd] at z
    exact z
  go_wp2_with fail
  with_reducible refine C6.out.mono ?_
  rintro e W7 ⟨rfl, r, k⟩
  have H7 := hid r
  have L7 := hid (k.holds L6.out hne)
  replace BX := hid (BX.out.rk k hQ)
  have K7 := hid (K6.out.trans k)
  clear C6 r k H6 L6 K6
  have C7 : Hid (Calls Try.prog 99 #[.pointer (some ⟨p, 0, none⟩)] W7 fun e w' => ∃ v, e = .returned (.agg #[.int .i64 (cmN l A E 16).1, .int .i64 (cmN l A E 17).1, .int .i64 (cmN l A E 18).1, .int .i64 (cmN l A E 19).1, .int .i64 (cmN l A E 20).1, v, .int .i64 (cmE l A E).1]) ∧ OwnN W7.heap.size w' v (cmC l A E) (cmL l A E) ∧ RdC w' p (.slice a n c) ((cmE l A E).2.1) ((cmE l A E).2.2) ∧ RK p W7 w') := by
    have z := rdtask_any p a n c l (cmN l A E 15).2.1 (cmN l A E 15).2.2 W7 H7.out L7.out (by have := AT.out 15; omega) (by have := AT.out 15; omega) hne
    simp only [cmN_add, Nat.reduceAdd] at z
    refine z.mono ?_
    rintro e w' ⟨v, h1, h2, h3, h4⟩
    exact ⟨v, h1, h2, h3, h4⟩
  go_wp2_with fail
  with_reducible refine C7.out.mono ?_
  rintro e W8 ⟨v, rfl, ow, r, k⟩
  have H8 := hid r
  have L8 := hid (k.holds L7.out hne)
  have OW := hid (ow.weaken (b' := QB + 1) (by have := BX.out.lt; omega))
  clear ow
  replace BX := hid (BX.out.rk k hQ)
  have K8 := hid (K7.out.trans k)
  clear C7 r k H7 L7 K7
  obtain ⟨va, vc, rfl⟩ := OW.out.form
  generalize hx0 : (cmK l A E).1 = x0 at *
  have X0 := hid hx0
  clear hx0
  generalize hx1 : (cmN l A E 0).1 = x1 at *
  have X1 := hid hx1
  clear hx1
  generalize hx2 : (cmN l A E 1).1 = x2 at *
  have X2 := hid hx2
  clear hx2
  generalize hx3 : (cmN l A E 2).1 = x3 at *
  have X3 := hid hx3
  clear hx3
  generalize hx4 : (cmN l A E 3).1 = x4 at *
  have X4 := hid hx4
  clear hx4
  generalize hx5 : (cmN l A E 4).1 = x5 at *
  have X5 := hid hx5
  clear hx5
  generalize hx6 : (cmN l A E 5).1 = x6 at *
  have X6 := hid hx6
  clear hx6
  generalize hx7 : (cmN l A E 6).1 = x7 at *
  have X7 := hid hx7
  clear hx7
  generalize hx8 : (cmN l A E 7).1 = x8 at *
  have X8 := hid hx8
  clear hx8
  generalize hx9 : (cmN l A E 8).1 = x9 at *
  have X9 := hid hx9
  clear hx9
  generalize hx10 : (cmN l A E 9).1 = x10 at *
  have X10 := hid hx10
  clear hx10
  generalize hx11 : (cmN l A E 10).1 = x11 at *
  have X11 := hid hx11
  clear hx11
  generalize hx12 : (cmN l A E 11).1 = x12 at *
  have X12 := hid hx12
  clear hx12
  generalize hx13 : (cmN l A E 12).1 = x13 at *
  have X13 := hid hx13
  clear hx13
  generalize hx14 : (cmN l A E 13).1 = x14 at *
  have X14 := hid hx14
  clear hx14
  generalize hx15 : (cmN l A E 14).1 = x15 at *
  have X15 := hid hx15
  clear hx15
  generalize hx16 : (cmN l A E 15).1 = x16 at *
  have X16 := hid hx16
  clear hx16
  generalize hx17 : (cmN l A E 16).1 = x17 at *
  have X17 := hid hx17
  clear hx17
  generalize hx18 : (cmN l A E 17).1 = x18 at *
  have X18 := hid hx18
  clear hx18
  generalize hx19 : (cmN l A E 18).1 = x19 at *
  have X19 := hid hx19
  clear hx19
  generalize hx20 : (cmN l A E 19).1 = x20 at *
  have X20 := hid hx20
  clear hx20
  generalize hx21 : (cmN l A E 20).1 = x21 at *
  have X21 := hid hx21
  clear hx21
  generalize hx23 : (cmE l A E).1 = x23 at *
  have X23 := hid hx23
  clear hx23
  have BH := BX.out
  unfold Blk at BH
  go_wp2_with (first | refine wpList_built rfl 32 _ rfl #[.int .i64 x0, .int .i64 x1, .int .i64 x2, .int .i64 x3, .int .i64 x4, .int .i64 x5, .int .i64 x6, .int .i64 x7, .int .i64 x8, .int .i64 x9, .int .i64 x10, .int .i64 x11, .int .i64 x12, .int .i64 x13, .int .i64 x14, .int .i64 x15, .int .i64 x16, .int .i64 x17, .int .i64 x18, .int .i64 x19, .int .i64 x20, .int .i64 x21, .slice va (cmC l A E) vc, .int .i64 x23] (by kernel_rfl) ?_ | refine wpList_store_row rfl 32 (.tmp 2) (.tmp 20) rfl QB #[.int .i64 x0, .int .i64 x1, .int .i64 x2, .int .i64 x3, .int .i64 x4, .int .i64 x5, .int .i64 x6, .int .i64 x7, .int .i64 x8, .int .i64 x9, .int .i64 x10, .int .i64 x11, .int .i64 x12, .int .i64 x13, .int .i64 x14, .int .i64 x15, .int .i64 x16, .int .i64 x17, .int .i64 x18, .int .i64 x19, .int .i64 x20, .int .i64 x21, .slice va (cmC l A E) vc, .int .i64 x23] rfl rfl 32 _ BH sizeCmd' rfl (by simp [Value.oneCell']) ?_)
  clear BH
  refine bodyPost_ret (results_cell rfl rfl ((BX.out.row #[.int .i64 x0, .int .i64 x1, .int .i64 x2, .int .i64 x3, .int .i64 x4, .int .i64 x5, .int .i64 x6, .int .i64 x7, .int .i64 x8, .int .i64 x9, .int .i64 x10, .int .i64 x11, .int .i64 x12, .int .i64 x13, .int .i64 x14, .int .i64 x15, .int .i64 x16, .int .i64 x17, .int .i64 x18, .int .i64 x19, .int .i64 x20, .int .i64 x21, .slice va (cmC l A E) vc, .int .i64 x23]).loadVar Try.underlying32 rfl sizeCmd')) rfl ?_
  refine ⟨_, by rw [X0.out, X1.out, X2.out, X3.out, X4.out, X5.out, X6.out, X7.out, X8.out, X9.out, X10.out, X11.out, X12.out, X13.out, X14.out, X15.out, X16.out, X17.out, X18.out, X19.out, X20.out, X21.out, X23.out], (OW.out.row (by omega) _).weaken (by omega), H8.out.same (setRow_other _ _ _ _ (fun e => hQ e.symm)), K8.out.row _ _ (by omega)⟩
end Go.Proofs.Ythkbddnkcljjpaa

namespace Go.Proofs.Ythkbddnkcljjpaa
open Go.RowKit Go.Deep Go.Maps
set_option linter.unusedVariables false
set_option linter.unusedSimpArgs false

/-- An entry that is read: three numbers and a command. -/
def enN (l : List Int) (A E : Int) (k : Nat) : Int × Int × Int := cmN l (tkc l A E 2).2.1 (tkc l A E 2).2.2 k
def enK (l : List Int) (A E : Int) : Int := (cmK l (tkc l A E 2).2.1 (tkc l A E 2).2.2).1
def enC (l : List Int) (A E : Int) : Nat := cmC l (tkc l A E 2).2.1 (tkc l A E 2).2.2
def enL (l : List Int) (A E : Int) : List Int := cmL l (tkc l A E 2).2.1 (tkc l A E 2).2.2
def enE (l : List Int) (A E : Int) : Int × Int × Int := cmE l (tkc l A E 2).2.1 (tkc l A E 2).2.2
theorem enE_at (l : List Int) (A E : Int) (h0 : 0 ≤ A) (h1 : A ≤ l.length) : 0 ≤ (enE l A E).2.1 ∧ (enE l A E).2.1 ≤ l.length := by
  have h := tkc_at l A E h0 h1 2
  exact cmE_at l _ _ h.1 h.2
set_option maxRecDepth 100000 in
set_option maxHeartbeats 8000000 in
theorem rdentry_any (p : Nat) (a : Option Addr) (n c : Nat) (l : List Int) (A E : Int) (w : World) (h : RdC w p (.slice a n c) A E) (hl : HoldsB w a n c l) (h0 : 0 ≤ A) (h1 : A ≤ n) (hne : ∀ b o, a = some ⟨b, o, none⟩ → 0 < n → b ≠ p) :
    Calls Try.prog 51 #[.pointer (some ⟨p, 0, none⟩)] w fun e w' => ∃ v, e = .returned (.agg #[.int .i64 (tkc l A E 0).1, .int .i64 (tkc l A E 1).1, .int .i64 (tkc l A E 2).1, .int .i64 (enK l A E), .int .i64 (enN l A E 0).1, .int .i64 (enN l A E 1).1, .int .i64 (enN l A E 2).1, .int .i64 (enN l A E 3).1, .int .i64 (enN l A E 4).1, .int .i64 (enN l A E 5).1, .int .i64 (enN l A E 6).1, .int .i64 (enN l A E 7).1, .int .i64 (enN l A E 8).1, .int .i64 (enN l A E 9).1, .int .i64 (enN l A E 10).1, .int .i64 (enN l A E 11).1, .int .i64 (enN l A E 12).1, .int .i64 (enN l A E 13).1, .int .i64 (enN l A E 14).1, .int .i64 (enN l A E 15).1, .int .i64 (enN l A E 16).1, .int .i64 (enN l A E 17).1, .int .i64 (enN l A E 18).1, .int .i64 (enN l A E 19).1, .int .i64 (enN l A E 20).1, v, .int .i64 (enE l A E).1]) ∧ OwnN w.heap.size w' v (enC l A E) (enL l A E) ∧ RdC w' p (.slice a n c) (enE l A E).2.1 (enE l A E).2.2 ∧ RK p w w' := by
  have hlen := hl.1
  have hnm := hl.2.1
  have hP := h.lt
  go_enter Try.func51, Try.ntmps51
  go_upto_region 1 with fail
  have B0 := (Below.refl w.heap.size w).alloc (Nat.le_refl _) (.cells #[.int .i64 0, .int .i64 0, .int .i64 0, .int .i64 0, .int .i64 0, .int .i64 0, .int .i64 0, .int .i64 0, .int .i64 0, .int .i64 0, .int .i64 0, .int .i64 0, .int .i64 0, .int .i64 0, .int .i64 0, .int .i64 0, .int .i64 0, .int .i64 0, .int .i64 0, .int .i64 0, .int .i64 0, .int .i64 0, .int .i64 0, .int .i64 0, .int .i64 0, .slice none 0 0, .int .i64 0] 34)
  have H0 := hid (h.below B0)
  have L0 := hid (hl.below B0)
  have K0 : Hid (RK p w (w.alloc (.cells #[.int .i64 0, .int .i64 0, .int .i64 0, .int .i64 0, .int .i64 0, .int .i64 0, .int .i64 0, .int .i64 0, .int .i64 0, .int .i64 0, .int .i64 0, .int .i64 0, .int .i64 0, .int .i64 0, .int .i64 0, .int .i64 0, .int .i64 0, .int .i64 0, .int .i64 0, .int .i64 0, .int .i64 0, .int .i64 0, .int .i64 0, .int .i64 0, .int .i64 0, .slice none 0 0, .int .i64 0] 34))) := WK.of_below B0
  have BX := hid (Blk.alloc w #[.int .i64 0, .int .i64 0, .int .i64 0, .int .i64 0, .int .i64 0, .int .i64 0, .int .i64 0, .int .i64 0, .int .i64 0, .int .i64 0, .int .i64 0, .int .i64 0, .int .i64 0, .int .i64 0, .int .i64 0, .int .i64 0, .int .i64 0, .int .i64 0, .int .i64 0, .int .i64 0, .int .i64 0, .int .i64 0, .int .i64 0, .int .i64 0, .int .i64 0, .slice none 0 0, .int .i64 0] (34))
  have hQ : w.heap.size ≠ p := by omega
  clear h hl B0
  generalize (w.alloc (.cells #[.int .i64 0, .int .i64 0, .int .i64 0, .int .i64 0, .int .i64 0, .int .i64 0, .int .i64 0, .int .i64 0, .int .i64 0, .int .i64 0, .int .i64 0, .int .i64 0, .int .i64 0, .int .i64 0, .int .i64 0, .int .i64 0, .int .i64 0, .int .i64 0, .int .i64 0, .int .i64 0, .int .i64 0, .int .i64 0, .int .i64 0, .int .i64 0, .int .i64 0, .slice none 0 0, .int .i64 0] 34)) = W0 at *
  generalize hq : w.heap.size = QB at *
  have AT := hid (tkc_at l A E h0 (by omega))
  have C0 : Hid (Calls Try.prog 85 #[.pointer (some ⟨p, 0, none⟩)] W0 fun e w' => e = .returned (.int .i64 (tkc l A E 0).1) ∧ RdC w' p (.slice a n c) ((tkc l A E 0).2.1) ((tkc l A E 0).2.2) ∧ RK p W0 w') := by
    exact rint64_any p a n c l A E W0 H0.out L0.out ⟨by omega, by omega⟩ hne
  go_wp2_with fail
  with_reducible refine C0.out.mono ?_
  rintro e W1 ⟨rfl, r, k⟩
  have H1 := hid r
  have L1 := hid (k.holds L0.out hne)
  replace BX := hid (BX.out.rk k hQ)
  have K1 := hid (K0.out.trans k)
  clear C0 r k H0 L0 K0
  have C1 : Hid (Calls Try.prog 86 #[.pointer (some ⟨p, 0, none⟩)] W1 fun e w' => e = .returned (.int .i64 (tkc l A E 1).1) ∧ RdC w' p (.slice a n c) ((tkc l A E 1).2.1) ((tkc l A E 1).2.2) ∧ RK p W1 w') := by
    exact rint_any p a n c l (tkc l A E 0).2.1 (tkc l A E 0).2.2 W1 H1.out L1.out ⟨by have := AT.out 0; omega, by have := AT.out 0; omega⟩ hne
  go_wp2_with fail
  with_reducible refine C1.out.mono ?_
  rintro e W2 ⟨rfl, r, k⟩
  have H2 := hid r
  have L2 := hid (k.holds L1.out hne)
  replace BX := hid (BX.out.rk k hQ)
  have K2 := hid (K1.out.trans k)
  clear C1 r k H1 L1 K1
  have C2 : Hid (Calls Try.prog 86 #[.pointer (some ⟨p, 0, none⟩)] W2 fun e w' => e = .returned (.int .i64 (tkc l A E 2).1) ∧ RdC w' p (.slice a n c) ((tkc l A E 2).2.1) ((tkc l A E 2).2.2) ∧ RK p W2 w') := by
    exact rint_any p a n c l (tkc l A E 1).2.1 (tkc l A E 1).2.2 W2 H2.out L2.out ⟨by have := AT.out 1; omega, by have := AT.out 1; omega⟩ hne
  go_wp2_with fail
  with_reducible refine C2.out.mono ?_
  rintro e W3 ⟨rfl, r, k⟩
  have H3 := hid r
  have L3 := hid (k.holds L2.out hne)
  replace BX := hid (BX.out.rk k hQ)
  have K3 := hid (K2.out.trans k)
  clear C2 r k H2 L2 K2
  have C3 : Hid (Calls Try.prog 87 #[.pointer (some ⟨p, 0, none⟩)] W3 fun e w' => ∃ v, e = .returned (.agg #[.int .i64 (enK l A E), .int .i64 (enN l A E 0).1, .int .i64 (enN l A E 1).1, .int .i64 (enN l A E 2).1, .int .i64 (enN l A E 3).1, .int .i64 (enN l A E 4).1, .int .i64 (enN l A E 5).1, .int .i64 (enN l A E 6).1, .int .i64 (enN l A E 7).1, .int .i64 (enN l A E 8).1, .int .i64 (enN l A E 9).1, .int .i64 (enN l A E 10).1, .int .i64 (enN l A E 11).1, .int .i64 (enN l A E 12).1, .int .i64 (enN l A E 13).1, .int .i64 (enN l A E 14).1, .int .i64 (enN l A E 15).1, .int .i64 (enN l A E 16).1, .int .i64 (enN l A E 17).1, .int .i64 (enN l A E 18).1, .int .i64 (enN l A E 19).1, .int .i64 (enN l A E 20).1, v, .int .i64 (enE l A E).1]) ∧ OwnN W3.heap.size w' v (enC l A E) (enL l A E) ∧ RdC w' p (.slice a n c) ((enE l A E).2.1) ((enE l A E).2.2) ∧ RK p W3 w') := by
    exact rdcommand_any p a n c l (tkc l A E 2).2.1 (tkc l A E 2).2.2 W3 H3.out L3.out (by have := AT.out 2; omega) (by have := AT.out 2; omega) hne
  go_wp2_with fail
  with_reducible refine C3.out.mono ?_
  rintro e W4 ⟨v, rfl, ow, r, k⟩
  have H4 := hid r
  have L4 := hid (k.holds L3.out hne)
  have OW := hid (ow.weaken (b' := QB + 1) (by have := BX.out.lt; omega))
  clear ow
  replace BX := hid (BX.out.rk k hQ)
  have K4 := hid (K3.out.trans k)
  clear C3 r k H3 L3 K3
  obtain ⟨va, vc, rfl⟩ := OW.out.form
  generalize hx0 : (tkc l A E 0).1 = x0 at *
  have X0 := hid hx0
  clear hx0
  generalize hx1 : (tkc l A E 1).1 = x1 at *
  have X1 := hid hx1
  clear hx1
  generalize hx2 : (tkc l A E 2).1 = x2 at *
  have X2 := hid hx2
  clear hx2
  generalize hx3 : (enK l A E) = x3 at *
  have X3 := hid hx3
  clear hx3
  generalize hx4 : (enN l A E 0).1 = x4 at *
  have X4 := hid hx4
  clear hx4
  generalize hx5 : (enN l A E 1).1 = x5 at *
  have X5 := hid hx5
  clear hx5
  generalize hx6 : (enN l A E 2).1 = x6 at *
  have X6 := hid hx6
  clear hx6
  generalize hx7 : (enN l A E 3).1 = x7 at *
  have X7 := hid hx7
  clear hx7
  generalize hx8 : (enN l A E 4).1 = x8 at *
  have X8 := hid hx8
  clear hx8
  generalize hx9 : (enN l A E 5).1 = x9 at *
  have X9 := hid hx9
  clear hx9
  generalize hx10 : (enN l A E 6).1 = x10 at *
  have X10 := hid hx10
  clear hx10
  generalize hx11 : (enN l A E 7).1 = x11 at *
  have X11 := hid hx11
  clear hx11
  generalize hx12 : (enN l A E 8).1 = x12 at *
  have X12 := hid hx12
  clear hx12
  generalize hx13 : (enN l A E 9).1 = x13 at *
  have X13 := hid hx13
  clear hx13
  generalize hx14 : (enN l A E 10).1 = x14 at *
  have X14 := hid hx14
  clear hx14
  generalize hx15 : (enN l A E 11).1 = x15 at *
  have X15 := hid hx15
  clear hx15
  generalize hx16 : (enN l A E 12).1 = x16 at *
  have X16 := hid hx16
  clear hx16
  generalize hx17 : (enN l A E 13).1 = x17 at *
  have X17 := hid hx17
  clear hx17
  generalize hx18 : (enN l A E 14).1 = x18 at *
  have X18 := hid hx18
  clear hx18
  generalize hx19 : (enN l A E 15).1 = x19 at *
  have X19 := hid hx19
  clear hx19
  generalize hx20 : (enN l A E 16).1 = x20 at *
  have X20 := hid hx20
  clear hx20
  generalize hx21 : (enN l A E 17).1 = x21 at *
  have X21 := hid hx21
  clear hx21
  generalize hx22 : (enN l A E 18).1 = x22 at *
  have X22 := hid hx22
  clear hx22
  generalize hx23 : (enN l A E 19).1 = x23 at *
  have X23 := hid hx23
  clear hx23
  generalize hx24 : (enN l A E 20).1 = x24 at *
  have X24 := hid hx24
  clear hx24
  generalize hx26 : (enE l A E).1 = x26 at *
  have X26 := hid hx26
  clear hx26
  have BH := BX.out
  unfold Blk at BH
  go_wp2_with (first | refine wpList_built rfl 34 _ rfl #[.int .i64 x0, .int .i64 x1, .int .i64 x2, .int .i64 x3, .int .i64 x4, .int .i64 x5, .int .i64 x6, .int .i64 x7, .int .i64 x8, .int .i64 x9, .int .i64 x10, .int .i64 x11, .int .i64 x12, .int .i64 x13, .int .i64 x14, .int .i64 x15, .int .i64 x16, .int .i64 x17, .int .i64 x18, .int .i64 x19, .int .i64 x20, .int .i64 x21, .int .i64 x22, .int .i64 x23, .int .i64 x24, .slice va (enC l A E) vc, .int .i64 x26] (by kernel_rfl) ?_ | refine wpList_store_row rfl 34 (.tmp 2) (.tmp 11) rfl QB #[.int .i64 x0, .int .i64 x1, .int .i64 x2, .int .i64 x3, .int .i64 x4, .int .i64 x5, .int .i64 x6, .int .i64 x7, .int .i64 x8, .int .i64 x9, .int .i64 x10, .int .i64 x11, .int .i64 x12, .int .i64 x13, .int .i64 x14, .int .i64 x15, .int .i64 x16, .int .i64 x17, .int .i64 x18, .int .i64 x19, .int .i64 x20, .int .i64 x21, .int .i64 x22, .int .i64 x23, .int .i64 x24, .slice va (enC l A E) vc, .int .i64 x26] rfl rfl 34 _ BH sizeEnt rfl (by simp [Value.oneCell']) ?_)
  clear BH
  refine bodyPost_ret (results_cell rfl rfl ((BX.out.row #[.int .i64 x0, .int .i64 x1, .int .i64 x2, .int .i64 x3, .int .i64 x4, .int .i64 x5, .int .i64 x6, .int .i64 x7, .int .i64 x8, .int .i64 x9, .int .i64 x10, .int .i64 x11, .int .i64 x12, .int .i64 x13, .int .i64 x14, .int .i64 x15, .int .i64 x16, .int .i64 x17, .int .i64 x18, .int .i64 x19, .int .i64 x20, .int .i64 x21, .int .i64 x22, .int .i64 x23, .int .i64 x24, .slice va (enC l A E) vc, .int .i64 x26]).loadVar Try.underlying34 rfl sizeEnt)) rfl ?_
  refine ⟨_, by rw [X0.out, X1.out, X2.out, X3.out, X4.out, X5.out, X6.out, X7.out, X8.out, X9.out, X10.out, X11.out, X12.out, X13.out, X14.out, X15.out, X16.out, X17.out, X18.out, X19.out, X20.out, X21.out, X22.out, X23.out, X24.out, X26.out], (OW.out.row (by omega) _).weaken (by omega), H4.out.same (setRow_other _ _ _ _ (fun e => hQ e.symm)), K4.out.row _ _ (by omega)⟩
end Go.Proofs.Ythkbddnkcljjpaa

namespace Go.Proofs.Ythkbddnkcljjpaa
open Go.RowKit Go.Deep Go.Maps
set_option linter.unusedVariables false
set_option linter.unusedSimpArgs false

theorem alloc_row (w : World) (old cs : Array Value) (t : Nat) : (w.alloc (.cells old t)).setRow w.heap.size cs = w.alloc (.cells cs t) := by
  unfold World.setRow World.alloc
  simp only [World.mk.injEq, true_and, and_true]
  apply Array.ext_getElem?
  intro i
  simp only [Array.getElem?_modify, Array.getElem?_push]
  by_cases e : w.heap.size = i
  · subst e; simp
  · have e' : ¬ i = w.heap.size := fun h => e h.symm
    simp [e, e']
theorem Blk.loadAt {W : World} {Q t ty : Nat} {cs : Array Value} {d : TypeDesc} (h : Blk W Q t cs) (hu : Try.prog.underlying ty = some d) (hd : d.isRow = true) (hi : (Try.prog.info? ty).map (·.size) = some cs.size) : (Instr.loadAt ty (.pointer (some ⟨Q, 0, none⟩))).run Try.prog W = .ok (.agg cs) W := by
  simp only [Instr.loadAt, Instr.sureAddr, Sem.run_bind, Sem.run_pure, Result.andThen_ok, h.loadVar hu hd hi]
theorem Blk.other {W : World} {Q t q : Nat} {cs ds : Array Value} (h : Blk W Q t cs) (hq : Q ≠ q) : Blk (W.setRow q ds) Q t cs := (setRow_other W q Q ds hq).trans h
theorem Blk.cellO {W : World} {Q t : Nat} {cs : Array Value} (h : Blk W Q t cs) (a : Addr) (v : Value) (hq : Q ≠ a.block) : Blk (W.setCell a v) Q t cs := (Below.heap_setCell W a v Q hq).trans h
theorem RdC.put {W : World} {p : Nat} {b : Value} {A E : Int} (h : RdC W p b A E) (F : Int) : RdC (W.setCell ⟨p, 2, none⟩ (.int .i64 F)) p b A F := by
  obtain ⟨⟨h1, h2, h3⟩, f1, f2, f3⟩ := h
  refine ⟨⟨?_, ?_, ?_⟩, ?_, ?_, ?_⟩ <;> simp [go_sem, h1, h2, h3, f1, f2, f3]
theorem setRow_below {w W : World} {q : Nat} {cs : Array Value} (h : Below w.heap.size w W) (hq : w.heap.size ≤ q) : Below w.heap.size w (W.setRow q cs) :=
  ⟨h.os, h.tape, h.output, by simpa using h.size, fun b hb => (setRow_other W q b cs (by omega)).trans (h.block b hb)⟩
/-- A store of a whole row, among operations whose order is drawn. -/
theorem storeRow_step {ops : Array Oper} {o : Oper} {a : Act} {Q : Exit → Act → World → Prop} {K : Act → World → Prop} {wr : World} (hg : o.guard = none) (ty : TypeId) (x y : Operand) (hop : o.op = .store ty x y) (g : Nat) (cs : Array Value) (hx : a.eval x = .pointer (some ⟨g, 0, none⟩)) (hy : a.eval y = .agg cs)
    (t : TypeId) (old : Array Value) (hh : wr.heap[g]? = some (.cells old t (0, 0))) (hi : (Try.prog.info? ty).map (·.size) = some cs.size) (hold : old.size = cs.size) (h1 : cs.all (·.oneCell') = true)
    (hK : K (a.put o.dst undef) (wr.setRow g cs)) : if Region.wanted o (yielded ops a.tmps) = true then Oper.wp Try.prog o a wr K Q else K (a.put o.dst undef) wr := by
  rw [if_pos (by simp [Region.wanted, hg])]
  exact wp_store_row ty x y hop g cs hx hy t old hh hi hold h1 hK
theorem OwnE.cellO {α : Type} {e : TypeId} {k : Nat} {enc : α → List Value} {base n : Nat} {l : List α} {v : Value} {w : World} (h : OwnE e k enc base w v n l) (a : Addr) (u : Value) (h1 : a.block < base) : OwnE e k enc base (w.setCell a u) v n l := by
  obtain ⟨h0, h3, h4⟩ := h
  refine ⟨h0, h3, ?_⟩
  rcases h4 with h4 | ⟨g, cap, cur, hv, hg, hh, r⟩
  · exact .inl h4
  · exact .inr ⟨g, cap, cur, hv, hg, (Below.heap_setCell w a u g (by omega)).trans hh, r⟩

/-- An entry's cells, as it is read. -/
def enV (l : List Int) (A E : Int) (v : Value) : Array Value := #[.int .i64 (tkc l A E 0).1, .int .i64 (tkc l A E 1).1, .int .i64 (tkc l A E 2).1, .int .i64 (enK l A E), .int .i64 (enN l A E 0).1, .int .i64 (enN l A E 1).1, .int .i64 (enN l A E 2).1, .int .i64 (enN l A E 3).1, .int .i64 (enN l A E 4).1, .int .i64 (enN l A E 5).1, .int .i64 (enN l A E 6).1, .int .i64 (enN l A E 7).1, .int .i64 (enN l A E 8).1, .int .i64 (enN l A E 9).1, .int .i64 (enN l A E 10).1, .int .i64 (enN l A E 11).1, .int .i64 (enN l A E 12).1, .int .i64 (enN l A E 13).1, .int .i64 (enN l A E 14).1, .int .i64 (enN l A E 15).1, .int .i64 (enN l A E 16).1, .int .i64 (enN l A E 17).1, .int .i64 (enN l A E 18).1, .int .i64 (enN l A E 19).1, .int .i64 (enN l A E 20).1, v, .int .i64 (enE l A E).1]
/-- An entry that was read: its cells, its tickets in memory of its own. -/
def EnO (l : List Int) (A E : Int) (base : Nat) (W : World) (cs : Array Value) : Prop := ∃ v, cs = enV l A E v ∧ OwnN base W v (enC l A E) (enL l A E)
theorem EnO.below' {l : List Int} {A E : Int} {base : Nat} {W W' : World} {cs : Array Value} (h : EnO l A E base W cs) (hb : Below W.heap.size W W') : EnO l A E base W' cs := by
  obtain ⟨v, h1, h2⟩ := h; exact ⟨v, h1, h2.below hb⟩
theorem EnO.row {l : List Int} {A E : Int} {base q : Nat} {W : World} {cs : Array Value} (h : EnO l A E base W cs) (h1 : q < base) (ds : Array Value) : EnO l A E base (W.setRow q ds) cs := by
  obtain ⟨v, e, h2⟩ := h; exact ⟨v, e, h2.row h1 ds⟩
theorem EnO.weaken {l : List Int} {A E : Int} {base b' : Nat} {W : World} {cs : Array Value} (h : EnO l A E base W cs) (hb : b' ≤ base) : EnO l A E b' W cs := by
  obtain ⟨v, e, h2⟩ := h; exact ⟨v, e, h2.weaken hb⟩
theorem rdentry_cs (p : Nat) (a : Option Addr) (n c : Nat) (l : List Int) (A E : Int) (w : World) (h : RdC w p (.slice a n c) A E) (hl : HoldsB w a n c l) (h0 : 0 ≤ A) (h1 : A ≤ n) (hne : ∀ b o, a = some ⟨b, o, none⟩ → 0 < n → b ≠ p) :
    Calls Try.prog 51 #[.pointer (some ⟨p, 0, none⟩)] w fun e w' => ∃ cs, e = .returned (.agg cs) ∧ cs.size = 27 ∧ cs.all (·.oneCell') = true ∧ EnO l A E w.heap.size w' cs ∧ RdC w' p (.slice a n c) (enE l A E).2.1 (enE l A E).2.2 ∧ RK p w w' := by
  refine (rdentry_any p a n c l A E w h hl h0 h1 hne).mono ?_
  rintro e w' ⟨v, rfl, h2, h3, h4⟩
  obtain ⟨va, vc, rfl⟩ := h2.form
  exact ⟨enV l A E (.slice va (enC l A E) vc), rfl, rfl, by simp [enV, Value.oneCell'], ⟨_, rfl, h2⟩, h3, h4⟩

set_option maxRecDepth 100000 in
set_option maxHeartbeats 8000000 in
theorem decE_any (a : Option Addr) (n c : Nat) (l : List Int) (w : World) (hl : HoldsB w a n c l) :
    Calls Try.prog 50 #[.slice a n c, .func (.func 51) #[] #[]] w fun e w' => ∃ cs, e = .returned (.tuple #[.agg cs, .int .i64 (endT n (enE l 0 0).2.1 (enE l 0 0).2.2).1, .int .i64 (endT n (enE l 0 0).2.1 (enE l 0 0).2.2).2]) ∧ ((endT n (enE l 0 0).2.1 (enE l 0 0).2.2).2 ≠ 0 → cs = #[.int .i64 0, .int .i64 0, .int .i64 0, .int .i64 0, .int .i64 0, .int .i64 0, .int .i64 0, .int .i64 0, .int .i64 0, .int .i64 0, .int .i64 0, .int .i64 0, .int .i64 0, .int .i64 0, .int .i64 0, .int .i64 0, .int .i64 0, .int .i64 0, .int .i64 0, .int .i64 0, .int .i64 0, .int .i64 0, .int .i64 0, .int .i64 0, .int .i64 0, .slice none 0 0, .int .i64 0]) ∧ ((endT n (enE l 0 0).2.1 (enE l 0 0).2.2).2 = 0 → EnO l 0 0 w.heap.size w' cs) ∧ cs.size = 27 ∧ cs.all (·.oneCell') = true ∧ Below w.heap.size w w' := by
  have hlen := hl.1
  have hblk : ∀ b o, a = some ⟨b, o, none⟩ → 0 < n → b < w.heap.size := fun b o e hp => by
    obtain ⟨b', o', e', hc⟩ := hl.2.2.2.2.2.2 hp
    rw [e] at e'; cases e'
    exact cell_lt (hc 0 hp)
  go_enter Try.func50, Try.ntmps50
  go_upto_region 2 with fail
  have B0 := ((Below.refl w.heap.size w).alloc (Nat.le_refl _) (.cells #[.int .i64 0, .int .i64 0, .int .i64 0, .int .i64 0, .int .i64 0, .int .i64 0, .int .i64 0, .int .i64 0, .int .i64 0, .int .i64 0, .int .i64 0, .int .i64 0, .int .i64 0, .int .i64 0, .int .i64 0, .int .i64 0, .int .i64 0, .int .i64 0, .int .i64 0, .int .i64 0, .int .i64 0, .int .i64 0, .int .i64 0, .int .i64 0, .int .i64 0, .slice none 0 0, .int .i64 0] 34)).alloc (by simp) (.cells #[.slice a n c, .int .i64 0, .int .i64 0] 151)
  have L0 := hid (hl.below B0)
  have R0 : Hid (RdC ((w.alloc (.cells #[.int .i64 0, .int .i64 0, .int .i64 0, .int .i64 0, .int .i64 0, .int .i64 0, .int .i64 0, .int .i64 0, .int .i64 0, .int .i64 0, .int .i64 0, .int .i64 0, .int .i64 0, .int .i64 0, .int .i64 0, .int .i64 0, .int .i64 0, .int .i64 0, .int .i64 0, .int .i64 0, .int .i64 0, .int .i64 0, .int .i64 0, .int .i64 0, .int .i64 0, .slice none 0 0, .int .i64 0] 34)).alloc (.cells #[.slice a n c, .int .i64 0, .int .i64 0] 151)) (w.heap.size + 1) (.slice a n c) 0 0) := ⟨⟨by simp [go_sem], by simp [go_sem], by simp [go_sem]⟩, by simp [go_sem], by simp [go_sem], by simp [go_sem]⟩
  have Q0 := hid ((Blk.alloc w #[.int .i64 0, .int .i64 0, .int .i64 0, .int .i64 0, .int .i64 0, .int .i64 0, .int .i64 0, .int .i64 0, .int .i64 0, .int .i64 0, .int .i64 0, .int .i64 0, .int .i64 0, .int .i64 0, .int .i64 0, .int .i64 0, .int .i64 0, .int .i64 0, .int .i64 0, .int .i64 0, .int .i64 0, .int .i64 0, .int .i64 0, .int .i64 0, .int .i64 0, .slice none 0 0, .int .i64 0] (34)).below ((Below.refl _ _).alloc (Nat.le_refl _) (.cells #[.slice a n c, .int .i64 0, .int .i64 0] 151)))
  have z0 : ((w.alloc (.cells #[.int .i64 0, .int .i64 0, .int .i64 0, .int .i64 0, .int .i64 0, .int .i64 0, .int .i64 0, .int .i64 0, .int .i64 0, .int .i64 0, .int .i64 0, .int .i64 0, .int .i64 0, .int .i64 0, .int .i64 0, .int .i64 0, .int .i64 0, .int .i64 0, .int .i64 0, .int .i64 0, .int .i64 0, .int .i64 0, .int .i64 0, .int .i64 0, .int .i64 0, .slice none 0 0, .int .i64 0] 34)).alloc (.cells #[.slice a n c, .int .i64 0, .int .i64 0] 151)).heap.size = w.heap.size + 2 := by simp
  clear hl
  generalize ((w.alloc (.cells #[.int .i64 0, .int .i64 0, .int .i64 0, .int .i64 0, .int .i64 0, .int .i64 0, .int .i64 0, .int .i64 0, .int .i64 0, .int .i64 0, .int .i64 0, .int .i64 0, .int .i64 0, .int .i64 0, .int .i64 0, .int .i64 0, .int .i64 0, .int .i64 0, .int .i64 0, .int .i64 0, .int .i64 0, .int .i64 0, .int .i64 0, .int .i64 0, .int .i64 0, .slice none 0 0, .int .i64 0] 34)).alloc (.cells #[.slice a n c, .int .i64 0, .int .i64 0] 151)) = W0 at *
  have C1 := hid (rdentry_cs (w.heap.size + 1) a n c l 0 0 W0 R0.out L0.out (by omega) (by omega) (fun b o e hp => by have := hblk b o e hp; omega))
  obtain ⟨p, hp⟩ : ∃ p, p = w.heap.size + 1 := ⟨_, rfl⟩
  rw [← hp] at C1 R0
  rw [← hp]
  have HP := hid hp
  clear R0 L0 hblk hp
  go_wp2_with fail
  with_reducible refine C1.out.mono ?_
  rintro e W1 ⟨cs, rfl, hcs, hon, hca, r1, k1⟩
  clear C1
  have hsz : (Try.prog.info? 34).map (·.size) = some cs.size := by rw [hcs]; exact sizeEnt
  have Q1 := Q0.out.rk k1 (by have := HP.out; omega)
  have B1 := B0.trans ((show Below w.heap.size W0 W1 from ⟨k1.os, k1.tape, k1.output, k1.size, fun b hb => k1.block b (by omega) (by have := HP.out; omega) (by intro e; cases e)⟩))
  have hs1 := k1.size
  clear B0 Q0 k1
  generalize hpo : (enE l 0 0).2 = PS at *
  have EP := hid hpo
  clear hpo
  obtain ⟨A1, E1⟩ := PS
  simp only at r1
  go_upto_region 3 with (refine wpList_store_row rfl 34 (.tmp 8) (.tmp 15) rfl W1.heap.size cs rfl rfl 34 _ (heap_alloc_new W1 _) hsz (by rw [hcs]; rfl) hon ?_)
  rw [alloc_row]
  have b2 := (Below.refl W1.heap.size W1).alloc (Nat.le_refl _) (.cells cs 34)
  have BV := hid (Blk.alloc W1 cs (34))
  have RD := hid (r1.below b2)
  have QR := hid (Q1.below b2)
  have BL := hid (B1.alloc B1.size (.cells cs 34))
  have CA := hid (hca.below' b2)
  have nv : W1.heap.size ≠ w.heap.size ∧ W1.heap.size ≠ p := by have := HP.out; omega
  clear r1 Q1 B1 b2 hca
  generalize W1.alloc (.cells cs 34) = WF at *
  generalize W1.heap.size = QV at *
  obtain ⟨⟨y0, y1, y2⟩, f0, f1, f2⟩ := RD.out
  by_cases hE : E1 = 0
  · subst hE
    by_cases hA : A1 < (n : Int)
    · have T := hid (show endT n A1 0 = (A1, 7) by unfold endT; rw [if_pos rfl, if_pos hA])
      have tA : decide (A1 < (n : Int)) = true := by simp; omega
      go_upto_region 5 with fail
      replace RD := hid (RD.out.put 7)
      replace QR := hid (QR.out.cellO ⟨p, 2, none⟩ (.int .i64 7) (by show w.heap.size ≠ p; have := HP.out; omega))
      replace BL := hid (BL.out.setCell (p := ⟨p, 2, none⟩) (by show w.heap.size ≤ p; have := HP.out; omega) (.int .i64 7))
      clear y0 y1 y2 f0 f1 f2 CA BV
      generalize WF.setCell ⟨p, 2, none⟩ (.int .i64 7) = WF at *
      obtain ⟨⟨y0, y1, y2⟩, f0, f1, f2⟩ := RD.out
      go_upto_region 7 with fail
      have BZ := Blk.alloc WF #[.int .i64 0, .int .i64 0, .int .i64 0, .int .i64 0, .int .i64 0, .int .i64 0, .int .i64 0, .int .i64 0, .int .i64 0, .int .i64 0, .int .i64 0, .int .i64 0, .int .i64 0, .int .i64 0, .int .i64 0, .int .i64 0, .int .i64 0, .int .i64 0, .int .i64 0, .int .i64 0, .int .i64 0, .int .i64 0, .int .i64 0, .int .i64 0, .int .i64 0, .slice none 0 0, .int .i64 0] (34)
      have RF := RD.out.below ((Below.refl WF.heap.size WF).alloc (Nat.le_refl _) (.cells #[.int .i64 0, .int .i64 0, .int .i64 0, .int .i64 0, .int .i64 0, .int .i64 0, .int .i64 0, .int .i64 0, .int .i64 0, .int .i64 0, .int .i64 0, .int .i64 0, .int .i64 0, .int .i64 0, .int .i64 0, .int .i64 0, .int .i64 0, .int .i64 0, .int .i64 0, .int .i64 0, .int .i64 0, .int .i64 0, .int .i64 0, .int .i64 0, .int .i64 0, .slice none 0 0, .int .i64 0] 34))
      have QF := QR.out.below ((Below.refl WF.heap.size WF).alloc (Nat.le_refl _) (.cells #[.int .i64 0, .int .i64 0, .int .i64 0, .int .i64 0, .int .i64 0, .int .i64 0, .int .i64 0, .int .i64 0, .int .i64 0, .int .i64 0, .int .i64 0, .int .i64 0, .int .i64 0, .int .i64 0, .int .i64 0, .int .i64 0, .int .i64 0, .int .i64 0, .int .i64 0, .int .i64 0, .int .i64 0, .int .i64 0, .int .i64 0, .int .i64 0, .int .i64 0, .slice none 0 0, .int .i64 0] 34))
      have BF := BL.out.alloc BL.out.size (.cells #[.int .i64 0, .int .i64 0, .int .i64 0, .int .i64 0, .int .i64 0, .int .i64 0, .int .i64 0, .int .i64 0, .int .i64 0, .int .i64 0, .int .i64 0, .int .i64 0, .int .i64 0, .int .i64 0, .int .i64 0, .int .i64 0, .int .i64 0, .int .i64 0, .int .i64 0, .int .i64 0, .int .i64 0, .int .i64 0, .int .i64 0, .int .i64 0, .int .i64 0, .slice none 0 0, .int .i64 0] 34)
      have nz : WF.heap.size ≠ w.heap.size := by have := QR.out.lt; omega
      generalize WF.alloc (.cells #[.int .i64 0, .int .i64 0, .int .i64 0, .int .i64 0, .int .i64 0, .int .i64 0, .int .i64 0, .int .i64 0, .int .i64 0, .int .i64 0, .int .i64 0, .int .i64 0, .int .i64 0, .int .i64 0, .int .i64 0, .int .i64 0, .int .i64 0, .int .i64 0, .int .i64 0, .int .i64 0, .int .i64 0, .int .i64 0, .int .i64 0, .int .i64 0, .int .i64 0, .slice none 0 0, .int .i64 0] 34) = WG at *
      generalize WF.heap.size = QZ at *
      have dz : Blk WG.drew QZ 34 #[.int .i64 0, .int .i64 0, .int .i64 0, .int .i64 0, .int .i64 0, .int .i64 0, .int .i64 0, .int .i64 0, .int .i64 0, .int .i64 0, .int .i64 0, .int .i64 0, .int .i64 0, .int .i64 0, .int .i64 0, .int .i64 0, .int .i64 0, .int .i64 0, .int .i64 0, .int .i64 0, .int .i64 0, .int .i64 0, .int .i64 0, .int .i64 0, .int .i64 0, .slice none 0 0, .int .i64 0] := BZ
      have da : WG.drew.cell? ⟨p, 1, none⟩ = some (.int .i64 A1) := RF.1.2.1
      have de : WG.drew.cell? ⟨p, 2, none⟩ = some (.int .i64 7) := RF.1.2.2
      have dq : Blk WG.drew w.heap.size 34 #[.int .i64 0, .int .i64 0, .int .i64 0, .int .i64 0, .int .i64 0, .int .i64 0, .int .i64 0, .int .i64 0, .int .i64 0, .int .i64 0, .int .i64 0, .int .i64 0, .int .i64 0, .int .i64 0, .int .i64 0, .int .i64 0, .int .i64 0, .int .i64 0, .int .i64 0, .int .i64 0, .int .i64 0, .int .i64 0, .int .i64 0, .int .i64 0, .int .i64 0, .slice none 0 0, .int .i64 0] := QF
      have db : Below w.heap.size w WG.drew := BF.drew
      refine wp_region_held_drew (S := fun W => Blk W QZ 34 #[.int .i64 0, .int .i64 0, .int .i64 0, .int .i64 0, .int .i64 0, .int .i64 0, .int .i64 0, .int .i64 0, .int .i64 0, .int .i64 0, .int .i64 0, .int .i64 0, .int .i64 0, .int .i64 0, .int .i64 0, .int .i64 0, .int .i64 0, .int .i64 0, .int .i64 0, .int .i64 0, .int .i64 0, .int .i64 0, .int .i64 0, .int .i64 0, .int .i64 0, .slice none 0 0, .int .i64 0] ∧ W.cell? ⟨p, 1, none⟩ = some (.int .i64 A1) ∧ W.cell? ⟨p, 2, none⟩ = some (.int .i64 7)) (by kernel_rfl) ⟨dz, da, de⟩ (fun hHeld => ?_)
      generalize WG.drew = WD at *
      refine wpAnyH_take (i := 0) (v := .agg #[.int .i64 0, .int .i64 0, .int .i64 0, .int .i64 0, .int .i64 0, .int .i64 0, .int .i64 0, .int .i64 0, .int .i64 0, .int .i64 0, .int .i64 0, .int .i64 0, .int .i64 0, .int .i64 0, .int .i64 0, .int .i64 0, .int .i64 0, .int .i64 0, .int .i64 0, .int .i64 0, .int .i64 0, .int .i64 0, .int .i64 0, .int .i64 0, .int .i64 0, .slice none 0 0, .int .i64 0]) rfl (by kernel_rfl) (by kernel_rfl) (by kernel_rfl) (fun _ _ _ h => h) (yieldsIf_load_mid (by rfl) 34 (.tmp 9) rfl QZ 0 rfl (#[.int .i64 0, .int .i64 0, .int .i64 0, .int .i64 0, .int .i64 0, .int .i64 0, .int .i64 0, .int .i64 0, .int .i64 0, .int .i64 0, .int .i64 0, .int .i64 0, .int .i64 0, .int .i64 0, .int .i64 0, .int .i64 0, .int .i64 0, .int .i64 0, .int .i64 0, .int .i64 0, .int .i64 0, .int .i64 0, .int .i64 0, .int .i64 0, .int .i64 0, .slice none 0 0, .int .i64 0] : Array Value).toList _ (fun W hW => hW.1.range) Try.underlying34 rfl sizeEnt) (by assumption) ?_
      (try simp only [Act.put, List.getElem_toArray, List.getElem_cons_succ, List.getElem_cons_zero, List.setIfInBounds_toArray, List.set_cons_zero, List.set_cons_succ])
      refine wpAnyH_take (i := 1) (v := .pointer (some ⟨p, 0, none⟩)) rfl (by kernel_rfl) (by kernel_rfl) (by kernel_rfl) (fun _ _ _ h => h) (Or.inl ⟨by rfl, ?_⟩) (by assumption) ?_
      · (intro w hSw; (try dsimp only at hSw); obtain ⟨hz, ha, he⟩ := hSw; go_simp)
      (try simp only [Act.put, List.getElem_toArray, List.getElem_cons_succ, List.getElem_cons_zero, List.setIfInBounds_toArray, List.set_cons_zero, List.set_cons_succ])
      refine wpAnyH_take (i := 2) (v := .pointer (some ⟨p, 0, none⟩)) rfl (by kernel_rfl) (by kernel_rfl) (by kernel_rfl) (fun _ _ _ h => h) (Or.inl ⟨by rfl, ?_⟩) (by assumption) ?_
      · (intro w hSw; (try dsimp only at hSw); obtain ⟨hz, ha, he⟩ := hSw; go_simp)
      (try simp only [Act.put, List.getElem_toArray, List.getElem_cons_succ, List.getElem_cons_zero, List.setIfInBounds_toArray, List.set_cons_zero, List.set_cons_succ])
      refine wpAnyH_take (i := 3) (v := .pointer (some ⟨p, 1, none⟩)) rfl (by kernel_rfl) (by kernel_rfl) (by kernel_rfl) (fun _ _ _ h => h) (Or.inl ⟨by rfl, ?_⟩) (by assumption) ?_
      · (intro w hSw; (try dsimp only at hSw); obtain ⟨hz, ha, he⟩ := hSw; go_simp)
      (try simp only [Act.put, List.getElem_toArray, List.getElem_cons_succ, List.getElem_cons_zero, List.setIfInBounds_toArray, List.set_cons_zero, List.set_cons_succ])
      refine wpAnyH_take (i := 4) (v := .int .i64 A1) rfl (by kernel_rfl) (by kernel_rfl) (by kernel_rfl) (fun _ _ _ h => h) (Or.inl ⟨by rfl, ?_⟩) (by assumption) ?_
      · (intro w hSw; (try dsimp only at hSw); obtain ⟨hz, ha, he⟩ := hSw; go_simp)
      (try simp only [Act.put, List.getElem_toArray, List.getElem_cons_succ, List.getElem_cons_zero, List.setIfInBounds_toArray, List.set_cons_zero, List.set_cons_succ])
      refine wpAnyH_take (i := 5) (v := .pointer (some ⟨p, 0, none⟩)) rfl (by kernel_rfl) (by kernel_rfl) (by kernel_rfl) (fun _ _ _ h => h) (Or.inl ⟨by rfl, ?_⟩) (by assumption) ?_
      · (intro w hSw; (try dsimp only at hSw); obtain ⟨hz, ha, he⟩ := hSw; go_simp)
      (try simp only [Act.put, List.getElem_toArray, List.getElem_cons_succ, List.getElem_cons_zero, List.setIfInBounds_toArray, List.set_cons_zero, List.set_cons_succ])
      refine wpAnyH_take (i := 6) (v := .pointer (some ⟨p, 0, none⟩)) rfl (by kernel_rfl) (by kernel_rfl) (by kernel_rfl) (fun _ _ _ h => h) (Or.inl ⟨by rfl, ?_⟩) (by assumption) ?_
      · (intro w hSw; (try dsimp only at hSw); obtain ⟨hz, ha, he⟩ := hSw; go_simp)
      (try simp only [Act.put, List.getElem_toArray, List.getElem_cons_succ, List.getElem_cons_zero, List.setIfInBounds_toArray, List.set_cons_zero, List.set_cons_succ])
      refine wpAnyH_take (i := 7) (v := .pointer (some ⟨p, 2, none⟩)) rfl (by kernel_rfl) (by kernel_rfl) (by kernel_rfl) (fun _ _ _ h => h) (Or.inl ⟨by rfl, ?_⟩) (by assumption) ?_
      · (intro w hSw; (try dsimp only at hSw); obtain ⟨hz, ha, he⟩ := hSw; go_simp)
      (try simp only [Act.put, List.getElem_toArray, List.getElem_cons_succ, List.getElem_cons_zero, List.setIfInBounds_toArray, List.set_cons_zero, List.set_cons_succ])
      refine wpAnyH_take (i := 8) (v := .int .i64 7) rfl (by kernel_rfl) (by kernel_rfl) (by kernel_rfl) (fun _ _ _ h => h) (Or.inl ⟨by rfl, ?_⟩) (by assumption) ?_
      · (intro w hSw; (try dsimp only at hSw); obtain ⟨hz, ha, he⟩ := hSw; go_simp)
      (try simp only [Act.put, List.getElem_toArray, List.getElem_cons_succ, List.getElem_cons_zero, List.setIfInBounds_toArray, List.set_cons_zero, List.set_cons_succ])
      refine wpAnyH_ready (rs := [9]) (by kernel_rfl) (by simp) ?_
      refine AllReadyH.cons rfl (fun K hK => ?_) AllReadyH.nil
      refine storeRow_step rfl 34 (.tmp 4) (.tmp 38) rfl w.heap.size #[.int .i64 0, .int .i64 0, .int .i64 0, .int .i64 0, .int .i64 0, .int .i64 0, .int .i64 0, .int .i64 0, .int .i64 0, .int .i64 0, .int .i64 0, .int .i64 0, .int .i64 0, .int .i64 0, .int .i64 0, .int .i64 0, .int .i64 0, .int .i64 0, .int .i64 0, .int .i64 0, .int .i64 0, .int .i64 0, .int .i64 0, .int .i64 0, .int .i64 0, .slice none 0 0, .int .i64 0] rfl rfl 34 _ dq sizeEnt rfl (by simp [Value.oneCell']) ?_
      refine hK.out _ _ ⟨dz.other (by omega), (cell_setRow_other _ _ _ _ (by show p ≠ _; have := HP.out; omega)).trans da, (cell_setRow_other _ _ _ _ (by show p ≠ _; have := HP.out; omega)).trans de⟩ (fun hHeld => ?_)
      clear hK K
      (try simp only [Act.put, List.getElem_toArray, List.getElem_cons_succ, List.getElem_cons_zero, List.setIfInBounds_toArray, List.set_cons_zero, List.set_cons_succ])
      refine wpAnyH_take (i := 10) (v := .int .i64 A1) rfl (by kernel_rfl) (by kernel_rfl) (by kernel_rfl) (fun _ _ _ h => h) (Or.inl ⟨by rfl, ?_⟩) (by assumption) ?_
      · (intro w hSw; (try dsimp only at hSw); obtain ⟨hz, ha, he⟩ := hSw; go_simp)
      (try simp only [Act.put, List.getElem_toArray, List.getElem_cons_succ, List.getElem_cons_zero, List.setIfInBounds_toArray, List.set_cons_zero, List.set_cons_succ])
      refine wpAnyH_take (i := 11) (v := .int .i64 7) rfl (by kernel_rfl) (by kernel_rfl) (by kernel_rfl) (fun _ _ _ h => h) (Or.inl ⟨by rfl, ?_⟩) (by assumption) ?_
      · (intro w hSw; (try dsimp only at hSw); obtain ⟨hz, ha, he⟩ := hSw; go_simp)
      (try simp only [Act.put, List.getElem_toArray, List.getElem_cons_succ, List.getElem_cons_zero, List.setIfInBounds_toArray, List.set_cons_zero, List.set_cons_succ])
      refine wpAnyH_done (by kernel_rfl) ?_ _
      clear hHeld
      go_wp2_with fail
      refine bodyPost_ret (results_cell3 rfl rfl ((dq.row #[.int .i64 0, .int .i64 0, .int .i64 0, .int .i64 0, .int .i64 0, .int .i64 0, .int .i64 0, .int .i64 0, .int .i64 0, .int .i64 0, .int .i64 0, .int .i64 0, .int .i64 0, .int .i64 0, .int .i64 0, .int .i64 0, .int .i64 0, .int .i64 0, .int .i64 0, .int .i64 0, .int .i64 0, .int .i64 0, .int .i64 0, .int .i64 0, .int .i64 0, .slice none 0 0, .int .i64 0]).loadVar Try.underlying34 rfl sizeEnt)) rfl ?_
      refine ⟨_, by rw [EP.out, T.out]; rfl, fun _ => rfl, fun h => ?_, rfl, by simp [Value.oneCell'], setRow_below db (Nat.le_refl _)⟩
      rw [EP.out, T.out] at h
      cases h
    · have T := hid (show endT n A1 0 = (0, 0) by unfold endT; rw [if_pos rfl, if_neg hA])
      have tA : decide (A1 < (n : Int)) = false := by simp; omega
      have LD := BV.out.loadAt Try.underlying34 rfl hsz
      have BQ := QR.out
      unfold Blk at BQ
      go_wp2_with (first | refine wpList_load_at 34 rfl (.tmp 8) rfl _ _ rfl cs LD ?_ | refine wpList_store_row rfl 34 (.tmp 4) (.tmp 47) rfl w.heap.size cs rfl rfl 34 _ BQ hsz (by rw [hcs]; rfl) hon ?_)
      refine bodyPost_ret (results_cell3 rfl rfl ((QR.out.row cs).loadVar Try.underlying34 rfl hsz)) rfl ?_
      refine ⟨cs, by rw [EP.out, T.out]; rfl, fun h => absurd (by rw [EP.out, T.out]) h, fun _ => (CA.out.row (by omega) _).weaken (by omega), hcs, by simpa using hon, setRow_below BL.out (Nat.le_refl _)⟩
  · have T := hid (show endT n A1 E1 = (A1, E1) by unfold endT; rw [if_neg hE])
    have tE : (E1 == 0) = false := by simpa using hE
    have tN : (E1 != 0) = true := by simpa using hE
    have HE := hid hE
    clear CA BV hE
    go_upto_region 7 with fail
    have BZ := Blk.alloc WF #[.int .i64 0, .int .i64 0, .int .i64 0, .int .i64 0, .int .i64 0, .int .i64 0, .int .i64 0, .int .i64 0, .int .i64 0, .int .i64 0, .int .i64 0, .int .i64 0, .int .i64 0, .int .i64 0, .int .i64 0, .int .i64 0, .int .i64 0, .int .i64 0, .int .i64 0, .int .i64 0, .int .i64 0, .int .i64 0, .int .i64 0, .int .i64 0, .int .i64 0, .slice none 0 0, .int .i64 0] (34)
    have RF := RD.out.below ((Below.refl WF.heap.size WF).alloc (Nat.le_refl _) (.cells #[.int .i64 0, .int .i64 0, .int .i64 0, .int .i64 0, .int .i64 0, .int .i64 0, .int .i64 0, .int .i64 0, .int .i64 0, .int .i64 0, .int .i64 0, .int .i64 0, .int .i64 0, .int .i64 0, .int .i64 0, .int .i64 0, .int .i64 0, .int .i64 0, .int .i64 0, .int .i64 0, .int .i64 0, .int .i64 0, .int .i64 0, .int .i64 0, .int .i64 0, .slice none 0 0, .int .i64 0] 34))
    have QF := QR.out.below ((Below.refl WF.heap.size WF).alloc (Nat.le_refl _) (.cells #[.int .i64 0, .int .i64 0, .int .i64 0, .int .i64 0, .int .i64 0, .int .i64 0, .int .i64 0, .int .i64 0, .int .i64 0, .int .i64 0, .int .i64 0, .int .i64 0, .int .i64 0, .int .i64 0, .int .i64 0, .int .i64 0, .int .i64 0, .int .i64 0, .int .i64 0, .int .i64 0, .int .i64 0, .int .i64 0, .int .i64 0, .int .i64 0, .int .i64 0, .slice none 0 0, .int .i64 0] 34))
    have BF := BL.out.alloc BL.out.size (.cells #[.int .i64 0, .int .i64 0, .int .i64 0, .int .i64 0, .int .i64 0, .int .i64 0, .int .i64 0, .int .i64 0, .int .i64 0, .int .i64 0, .int .i64 0, .int .i64 0, .int .i64 0, .int .i64 0, .int .i64 0, .int .i64 0, .int .i64 0, .int .i64 0, .int .i64 0, .int .i64 0, .int .i64 0, .int .i64 0, .int .i64 0, .int .i64 0, .int .i64 0, .slice none 0 0, .int .i64 0] 34)
    have nz : WF.heap.size ≠ w.heap.size := by have := QR.out.lt; omega
    generalize WF.alloc (.cells #[.int .i64 0, .int .i64 0, .int .i64 0, .int .i64 0, .int .i64 0, .int .i64 0, .int .i64 0, .int .i64 0, .int .i64 0, .int .i64 0, .int .i64 0, .int .i64 0, .int .i64 0, .int .i64 0, .int .i64 0, .int .i64 0, .int .i64 0, .int .i64 0, .int .i64 0, .int .i64 0, .int .i64 0, .int .i64 0, .int .i64 0, .int .i64 0, .int .i64 0, .slice none 0 0, .int .i64 0] 34) = WG at *
    generalize WF.heap.size = QZ at *
    have dz : Blk WG.drew QZ 34 #[.int .i64 0, .int .i64 0, .int .i64 0, .int .i64 0, .int .i64 0, .int .i64 0, .int .i64 0, .int .i64 0, .int .i64 0, .int .i64 0, .int .i64 0, .int .i64 0, .int .i64 0, .int .i64 0, .int .i64 0, .int .i64 0, .int .i64 0, .int .i64 0, .int .i64 0, .int .i64 0, .int .i64 0, .int .i64 0, .int .i64 0, .int .i64 0, .int .i64 0, .slice none 0 0, .int .i64 0] := BZ
    have da : WG.drew.cell? ⟨p, 1, none⟩ = some (.int .i64 A1) := RF.1.2.1
    have de : WG.drew.cell? ⟨p, 2, none⟩ = some (.int .i64 E1) := RF.1.2.2
    have dq : Blk WG.drew w.heap.size 34 #[.int .i64 0, .int .i64 0, .int .i64 0, .int .i64 0, .int .i64 0, .int .i64 0, .int .i64 0, .int .i64 0, .int .i64 0, .int .i64 0, .int .i64 0, .int .i64 0, .int .i64 0, .int .i64 0, .int .i64 0, .int .i64 0, .int .i64 0, .int .i64 0, .int .i64 0, .int .i64 0, .int .i64 0, .int .i64 0, .int .i64 0, .int .i64 0, .int .i64 0, .slice none 0 0, .int .i64 0] := QF
    have db : Below w.heap.size w WG.drew := BF.drew
    refine wp_region_held_drew (S := fun W => Blk W QZ 34 #[.int .i64 0, .int .i64 0, .int .i64 0, .int .i64 0, .int .i64 0, .int .i64 0, .int .i64 0, .int .i64 0, .int .i64 0, .int .i64 0, .int .i64 0, .int .i64 0, .int .i64 0, .int .i64 0, .int .i64 0, .int .i64 0, .int .i64 0, .int .i64 0, .int .i64 0, .int .i64 0, .int .i64 0, .int .i64 0, .int .i64 0, .int .i64 0, .int .i64 0, .slice none 0 0, .int .i64 0] ∧ W.cell? ⟨p, 1, none⟩ = some (.int .i64 A1) ∧ W.cell? ⟨p, 2, none⟩ = some (.int .i64 E1)) (by kernel_rfl) ⟨dz, da, de⟩ (fun hHeld => ?_)
    generalize WG.drew = WD at *
    refine wpAnyH_take (i := 0) (v := .agg #[.int .i64 0, .int .i64 0, .int .i64 0, .int .i64 0, .int .i64 0, .int .i64 0, .int .i64 0, .int .i64 0, .int .i64 0, .int .i64 0, .int .i64 0, .int .i64 0, .int .i64 0, .int .i64 0, .int .i64 0, .int .i64 0, .int .i64 0, .int .i64 0, .int .i64 0, .int .i64 0, .int .i64 0, .int .i64 0, .int .i64 0, .int .i64 0, .int .i64 0, .slice none 0 0, .int .i64 0]) rfl (by kernel_rfl) (by kernel_rfl) (by kernel_rfl) (fun _ _ _ h => h) (yieldsIf_load_mid (by rfl) 34 (.tmp 9) rfl QZ 0 rfl (#[.int .i64 0, .int .i64 0, .int .i64 0, .int .i64 0, .int .i64 0, .int .i64 0, .int .i64 0, .int .i64 0, .int .i64 0, .int .i64 0, .int .i64 0, .int .i64 0, .int .i64 0, .int .i64 0, .int .i64 0, .int .i64 0, .int .i64 0, .int .i64 0, .int .i64 0, .int .i64 0, .int .i64 0, .int .i64 0, .int .i64 0, .int .i64 0, .int .i64 0, .slice none 0 0, .int .i64 0] : Array Value).toList _ (fun W hW => hW.1.range) Try.underlying34 rfl sizeEnt) (by assumption) ?_
    (try simp only [Act.put, List.getElem_toArray, List.getElem_cons_succ, List.getElem_cons_zero, List.setIfInBounds_toArray, List.set_cons_zero, List.set_cons_succ])
    refine wpAnyH_take (i := 1) (v := .pointer (some ⟨p, 0, none⟩)) rfl (by kernel_rfl) (by kernel_rfl) (by kernel_rfl) (fun _ _ _ h => h) (Or.inl ⟨by rfl, ?_⟩) (by assumption) ?_
    · (intro w hSw; (try dsimp only at hSw); obtain ⟨hz, ha, he⟩ := hSw; go_simp)
    (try simp only [Act.put, List.getElem_toArray, List.getElem_cons_succ, List.getElem_cons_zero, List.setIfInBounds_toArray, List.set_cons_zero, List.set_cons_succ])
    refine wpAnyH_take (i := 2) (v := .pointer (some ⟨p, 0, none⟩)) rfl (by kernel_rfl) (by kernel_rfl) (by kernel_rfl) (fun _ _ _ h => h) (Or.inl ⟨by rfl, ?_⟩) (by assumption) ?_
    · (intro w hSw; (try dsimp only at hSw); obtain ⟨hz, ha, he⟩ := hSw; go_simp)
    (try simp only [Act.put, List.getElem_toArray, List.getElem_cons_succ, List.getElem_cons_zero, List.setIfInBounds_toArray, List.set_cons_zero, List.set_cons_succ])
    refine wpAnyH_take (i := 3) (v := .pointer (some ⟨p, 1, none⟩)) rfl (by kernel_rfl) (by kernel_rfl) (by kernel_rfl) (fun _ _ _ h => h) (Or.inl ⟨by rfl, ?_⟩) (by assumption) ?_
    · (intro w hSw; (try dsimp only at hSw); obtain ⟨hz, ha, he⟩ := hSw; go_simp)
    (try simp only [Act.put, List.getElem_toArray, List.getElem_cons_succ, List.getElem_cons_zero, List.setIfInBounds_toArray, List.set_cons_zero, List.set_cons_succ])
    refine wpAnyH_take (i := 4) (v := .int .i64 A1) rfl (by kernel_rfl) (by kernel_rfl) (by kernel_rfl) (fun _ _ _ h => h) (Or.inl ⟨by rfl, ?_⟩) (by assumption) ?_
    · (intro w hSw; (try dsimp only at hSw); obtain ⟨hz, ha, he⟩ := hSw; go_simp)
    (try simp only [Act.put, List.getElem_toArray, List.getElem_cons_succ, List.getElem_cons_zero, List.setIfInBounds_toArray, List.set_cons_zero, List.set_cons_succ])
    refine wpAnyH_take (i := 5) (v := .pointer (some ⟨p, 0, none⟩)) rfl (by kernel_rfl) (by kernel_rfl) (by kernel_rfl) (fun _ _ _ h => h) (Or.inl ⟨by rfl, ?_⟩) (by assumption) ?_
    · (intro w hSw; (try dsimp only at hSw); obtain ⟨hz, ha, he⟩ := hSw; go_simp)
    (try simp only [Act.put, List.getElem_toArray, List.getElem_cons_succ, List.getElem_cons_zero, List.setIfInBounds_toArray, List.set_cons_zero, List.set_cons_succ])
    refine wpAnyH_take (i := 6) (v := .pointer (some ⟨p, 0, none⟩)) rfl (by kernel_rfl) (by kernel_rfl) (by kernel_rfl) (fun _ _ _ h => h) (Or.inl ⟨by rfl, ?_⟩) (by assumption) ?_
    · (intro w hSw; (try dsimp only at hSw); obtain ⟨hz, ha, he⟩ := hSw; go_simp)
    (try simp only [Act.put, List.getElem_toArray, List.getElem_cons_succ, List.getElem_cons_zero, List.setIfInBounds_toArray, List.set_cons_zero, List.set_cons_succ])
    refine wpAnyH_take (i := 7) (v := .pointer (some ⟨p, 2, none⟩)) rfl (by kernel_rfl) (by kernel_rfl) (by kernel_rfl) (fun _ _ _ h => h) (Or.inl ⟨by rfl, ?_⟩) (by assumption) ?_
    · (intro w hSw; (try dsimp only at hSw); obtain ⟨hz, ha, he⟩ := hSw; go_simp)
    (try simp only [Act.put, List.getElem_toArray, List.getElem_cons_succ, List.getElem_cons_zero, List.setIfInBounds_toArray, List.set_cons_zero, List.set_cons_succ])
    refine wpAnyH_take (i := 8) (v := .int .i64 E1) rfl (by kernel_rfl) (by kernel_rfl) (by kernel_rfl) (fun _ _ _ h => h) (Or.inl ⟨by rfl, ?_⟩) (by assumption) ?_
    · (intro w hSw; (try dsimp only at hSw); obtain ⟨hz, ha, he⟩ := hSw; go_simp)
    (try simp only [Act.put, List.getElem_toArray, List.getElem_cons_succ, List.getElem_cons_zero, List.setIfInBounds_toArray, List.set_cons_zero, List.set_cons_succ])
    refine wpAnyH_ready (rs := [9]) (by kernel_rfl) (by simp) ?_
    refine AllReadyH.cons rfl (fun K hK => ?_) AllReadyH.nil
    refine storeRow_step rfl 34 (.tmp 4) (.tmp 38) rfl w.heap.size #[.int .i64 0, .int .i64 0, .int .i64 0, .int .i64 0, .int .i64 0, .int .i64 0, .int .i64 0, .int .i64 0, .int .i64 0, .int .i64 0, .int .i64 0, .int .i64 0, .int .i64 0, .int .i64 0, .int .i64 0, .int .i64 0, .int .i64 0, .int .i64 0, .int .i64 0, .int .i64 0, .int .i64 0, .int .i64 0, .int .i64 0, .int .i64 0, .int .i64 0, .slice none 0 0, .int .i64 0] rfl rfl 34 _ dq sizeEnt rfl (by simp [Value.oneCell']) ?_
    refine hK.out _ _ ⟨dz.other (by omega), (cell_setRow_other _ _ _ _ (by show p ≠ _; have := HP.out; omega)).trans da, (cell_setRow_other _ _ _ _ (by show p ≠ _; have := HP.out; omega)).trans de⟩ (fun hHeld => ?_)
    clear hK K
    (try simp only [Act.put, List.getElem_toArray, List.getElem_cons_succ, List.getElem_cons_zero, List.setIfInBounds_toArray, List.set_cons_zero, List.set_cons_succ])
    refine wpAnyH_take (i := 10) (v := .int .i64 A1) rfl (by kernel_rfl) (by kernel_rfl) (by kernel_rfl) (fun _ _ _ h => h) (Or.inl ⟨by rfl, ?_⟩) (by assumption) ?_
    · (intro w hSw; (try dsimp only at hSw); obtain ⟨hz, ha, he⟩ := hSw; go_simp)
    (try simp only [Act.put, List.getElem_toArray, List.getElem_cons_succ, List.getElem_cons_zero, List.setIfInBounds_toArray, List.set_cons_zero, List.set_cons_succ])
    refine wpAnyH_take (i := 11) (v := .int .i64 E1) rfl (by kernel_rfl) (by kernel_rfl) (by kernel_rfl) (fun _ _ _ h => h) (Or.inl ⟨by rfl, ?_⟩) (by assumption) ?_
    · (intro w hSw; (try dsimp only at hSw); obtain ⟨hz, ha, he⟩ := hSw; go_simp)
    (try simp only [Act.put, List.getElem_toArray, List.getElem_cons_succ, List.getElem_cons_zero, List.setIfInBounds_toArray, List.set_cons_zero, List.set_cons_succ])
    refine wpAnyH_done (by kernel_rfl) ?_ _
    clear hHeld
    go_wp2_with fail
    refine bodyPost_ret (results_cell3 rfl rfl ((dq.row #[.int .i64 0, .int .i64 0, .int .i64 0, .int .i64 0, .int .i64 0, .int .i64 0, .int .i64 0, .int .i64 0, .int .i64 0, .int .i64 0, .int .i64 0, .int .i64 0, .int .i64 0, .int .i64 0, .int .i64 0, .int .i64 0, .int .i64 0, .int .i64 0, .int .i64 0, .int .i64 0, .int .i64 0, .int .i64 0, .int .i64 0, .int .i64 0, .int .i64 0, .slice none 0 0, .int .i64 0]).loadVar Try.underlying34 rfl sizeEnt)) rfl ?_
    refine ⟨_, by rw [EP.out, T.out]; rfl, fun _ => rfl, fun h => ?_, rfl, by simp [Value.oneCell'], setRow_below db (Nat.le_refl _)⟩
    rw [EP.out, T.out] at h
    exact absurd h HE.out

set_option maxRecDepth 100000 in
set_option maxHeartbeats 8000000 in
theorem decentry_any (a : Option Addr) (n c : Nat) (l : List Int) (w : World) (hl : HoldsB w a n c l) :
    Calls Try.prog 22 #[.slice a n c] w fun e w' => ∃ cs, e = .returned (.tuple #[.agg cs, .int .i64 (endT n (enE l 0 0).2.1 (enE l 0 0).2.2).1, .int .i64 (endT n (enE l 0 0).2.1 (enE l 0 0).2.2).2]) ∧ ((endT n (enE l 0 0).2.1 (enE l 0 0).2.2).2 ≠ 0 → cs = #[.int .i64 0, .int .i64 0, .int .i64 0, .int .i64 0, .int .i64 0, .int .i64 0, .int .i64 0, .int .i64 0, .int .i64 0, .int .i64 0, .int .i64 0, .int .i64 0, .int .i64 0, .int .i64 0, .int .i64 0, .int .i64 0, .int .i64 0, .int .i64 0, .int .i64 0, .int .i64 0, .int .i64 0, .int .i64 0, .int .i64 0, .int .i64 0, .int .i64 0, .slice none 0 0, .int .i64 0]) ∧ ((endT n (enE l 0 0).2.1 (enE l 0 0).2.2).2 = 0 → EnO l 0 0 w.heap.size w' cs) ∧ cs.size = 27 ∧ cs.all (·.oneCell') = true ∧ Below w.heap.size w w' := by
  go_enter Try.func22, Try.ntmps22
  go_upto_region 1 with fail
  have B0 := (Below.refl w.heap.size w).alloc (Nat.le_refl _) (.cells #[.int .i64 0, .int .i64 0, .int .i64 0, .int .i64 0, .int .i64 0, .int .i64 0, .int .i64 0, .int .i64 0, .int .i64 0, .int .i64 0, .int .i64 0, .int .i64 0, .int .i64 0, .int .i64 0, .int .i64 0, .int .i64 0, .int .i64 0, .int .i64 0, .int .i64 0, .int .i64 0, .int .i64 0, .int .i64 0, .int .i64 0, .int .i64 0, .int .i64 0, .slice none 0 0, .int .i64 0] 34)
  have L0 := hl.below B0
  have Q0 := hid (Blk.alloc w #[.int .i64 0, .int .i64 0, .int .i64 0, .int .i64 0, .int .i64 0, .int .i64 0, .int .i64 0, .int .i64 0, .int .i64 0, .int .i64 0, .int .i64 0, .int .i64 0, .int .i64 0, .int .i64 0, .int .i64 0, .int .i64 0, .int .i64 0, .int .i64 0, .int .i64 0, .int .i64 0, .int .i64 0, .int .i64 0, .int .i64 0, .int .i64 0, .int .i64 0, .slice none 0 0, .int .i64 0] (34))
  have z0 : w.heap.size < (w.alloc (.cells #[.int .i64 0, .int .i64 0, .int .i64 0, .int .i64 0, .int .i64 0, .int .i64 0, .int .i64 0, .int .i64 0, .int .i64 0, .int .i64 0, .int .i64 0, .int .i64 0, .int .i64 0, .int .i64 0, .int .i64 0, .int .i64 0, .int .i64 0, .int .i64 0, .int .i64 0, .int .i64 0, .int .i64 0, .int .i64 0, .int .i64 0, .int .i64 0, .int .i64 0, .slice none 0 0, .int .i64 0] 34)).heap.size := by simp
  clear hl
  generalize (w.alloc (.cells #[.int .i64 0, .int .i64 0, .int .i64 0, .int .i64 0, .int .i64 0, .int .i64 0, .int .i64 0, .int .i64 0, .int .i64 0, .int .i64 0, .int .i64 0, .int .i64 0, .int .i64 0, .int .i64 0, .int .i64 0, .int .i64 0, .int .i64 0, .int .i64 0, .int .i64 0, .int .i64 0, .int .i64 0, .int .i64 0, .int .i64 0, .int .i64 0, .int .i64 0, .slice none 0 0, .int .i64 0] 34)) = W0 at *
  have C1 := hid (decE_any a n c l W0 L0)
  generalize hpo : (enE l 0 0).2 = PS at *
  have HPO := hid hpo
  generalize hen : endT n PS.1 PS.2 = EN at *
  obtain ⟨rp, re⟩ := EN
  have HEN := hid hen
  clear hen L0 hpo
  go_wp2_with fail
  with_reducible refine C1.out.mono ?_
  rintro e W1 ⟨cs, rfl, hzz, hval, hcs, hon, b1⟩
  have hsz : (Try.prog.info? 34).map (·.size) = some cs.size := by rw [hcs]; exact sizeEnt
  have Q1 := Q0.out.below b1
  have B1 := hid (B0.trans (b1.mono (by omega)))
  have HV := hid hval
  have HZ := hid hzz
  have HO := hid hon
  clear C1 B0 Q0 b1 hval hzz hon
  have BQ := Q1
  unfold Blk at BQ
  go_wp2_with (refine wpList_store_row rfl 34 (.tmp 2) (.tmp 7) rfl w.heap.size cs rfl rfl 34 _ BQ hsz (by rw [hcs]; rfl) HO.out ?_)
  refine bodyPost_ret (results_cell3 rfl rfl ((Q1.row cs).loadVar Try.underlying34 rfl hsz)) rfl ?_
  rw [HPO.out, HEN.out]
  exact ⟨cs, rfl, HZ.out, fun h => ((HV.out h).row z0 cs).weaken (by omega), hcs, HO.out, setRow_below B1.out (Nat.le_refl _)⟩
end Go.Proofs.Ythkbddnkcljjpaa
