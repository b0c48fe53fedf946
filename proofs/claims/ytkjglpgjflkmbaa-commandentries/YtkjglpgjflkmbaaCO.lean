/-
  Contracts of command: the reader's queue and node.
-/
import Derived.Test.YtkjglpgjflkmbaaCN
namespace Go.Proofs.Ytkjglpgjflkmbaa
open Go.RowKit Go.Deep
set_option linter.unusedVariables false
set_option linter.unusedSimpArgs false

/-- The k-th of the numbers that are taken one behind another. -/
def tkc (l : List Int) (A E : Int) : Nat → Int × Int × Int
  | 0 => tkI l A E
  | k + 1 => tkI l (tkc l A E k).2.1 (tkc l A E k).2.2
theorem tkc_at (l : List Int) (A E : Int) (h0 : 0 ≤ A) (h1 : A ≤ l.length) : ∀ k, 0 ≤ (tkc l A E k).2.1 ∧ (tkc l A E k).2.1 ≤ l.length
  | 0 => tkI_at l A E h0 h1
  | k + 1 => by have h := tkc_at l A E h0 h1 k; exact tkI_at l _ _ h.1 h.2
theorem Box.rk {p Q : Nat} {A B : World} {cs : Array Value} (h : Box A Q cs) (k : RK p A B) (h1 : Q ≠ p) : Box B Q cs := fun i x e => k.keep (h i x e) h1
theorem RK.frs {p Q : Nat} {A B : World} (k : RK p A B) (h : ∀ j, A.frozen? ⟨Q, j, none⟩ = false) (hq : Q < A.heap.size) (h1 : Q ≠ p) : ∀ j, B.frozen? ⟨Q, j, none⟩ = false :=
  fun j => (World.frozen?_of_block (a := ⟨Q, j, none⟩) (k.block Q hq h1 (by intro e; cases e))).trans (h j)
set_option maxRecDepth 100000 in
set_option maxHeartbeats 8000000 in
theorem rdnode_any (p : Nat) (a : Option Addr) (n c : Nat) (l : List Int) (A E : Int) (w : World) (h : RdC w p (.slice a n c) A E) (hl : HoldsB w a n c l) (h0 : 0 ≤ A) (h1 : A ≤ n) (hne : ∀ b o, a = some ⟨b, o, none⟩ → 0 < n → b ≠ p) :
    Calls Try.prog 97 #[.pointer (some ⟨p, 0, none⟩)] w fun e w' => e = .returned (.agg #[.int .i64 (tkc l A E 0).1, .int .i64 (tkc l A E 1).1, .int .i64 (tkc l A E 2).1, .int .i64 (tkc l A E 3).1, .int .i64 (tkc l A E 4).1]) ∧ RdC w' p (.slice a n c) (tkc l A E 4).2.1 (tkc l A E 4).2.2 ∧ RK p w w' := by
  have hlen := hl.1
  have hcap := hl.2.1
  have hcm := hl.2.2.1
  have hP := h.lt
  have AT := hid (tkc_at l A E h0 (by omega))
  go_enter Try.func97, Try.ntmps97
  go_upto_region 1 with fail
  have B0 := (Below.refl w.heap.size w).alloc (Nat.le_refl _) (.cells #[.int .i64 0, .int .i64 0, .int .i64 0, .int .i64 0, .int .i64 0] 27)
  have H0 := hid (h.below B0)
  have L0 := hid (hl.below B0)
  have K0 : Hid (RK p w (w.alloc (.cells #[.int .i64 0, .int .i64 0, .int .i64 0, .int .i64 0, .int .i64 0] 27))) := WK.of_below B0
  have BX := hid (Box.alloc w #[.int .i64 0, .int .i64 0, .int .i64 0, .int .i64 0, .int .i64 0] (27))
  have FR : Hid (∀ j, (w.alloc (.cells #[.int .i64 0, .int .i64 0, .int .i64 0, .int .i64 0, .int .i64 0] 27)).frozen? ⟨w.heap.size, j, none⟩ = false) := fun j => by simp [go_sem]
  have hQ : w.heap.size ≠ p := by omega
  have hQl : w.heap.size < (w.alloc (.cells #[.int .i64 0, .int .i64 0, .int .i64 0, .int .i64 0, .int .i64 0] 27)).heap.size := by simp
  have HQl := hid hQl
  clear h hl B0 hP hQl
  generalize (w.alloc (.cells #[.int .i64 0, .int .i64 0, .int .i64 0, .int .i64 0, .int .i64 0] 27)) = W0 at *
  generalize hq : w.heap.size = QB at *
  have C0 : Hid (Calls Try.prog 86 #[.pointer (some ⟨p, 0, none⟩)] W0 fun e w' => e = .returned (.int .i64 (tkc l A E 0).1) ∧ RdC w' p (.slice a n c) (tkc l A E 0).2.1 (tkc l A E 0).2.2 ∧ RK p W0 w') := rint_any p a n c l A E W0 H0.out L0.out ⟨by omega, by omega⟩ hne
  go_wp2_with fail
  with_reducible refine C0.out.mono ?_
  rintro e W1 ⟨rfl, r0, k0⟩
  have H1 := hid r0
  have L1 := hid (k0.holds L0.out hne)
  replace FR := hid (k0.frs FR.out HQl.out hQ)
  replace BX := hid (BX.out.rk k0 hQ)
  replace HQl := hid (Nat.lt_of_lt_of_le HQl.out k0.size)
  have K1 := hid (K0.out.trans k0)
  clear C0 r0 k0 H0 L0 K0
  have C1 : Hid (Calls Try.prog 86 #[.pointer (some ⟨p, 0, none⟩)] W1 fun e w' => e = .returned (.int .i64 (tkc l A E 1).1) ∧ RdC w' p (.slice a n c) (tkc l A E 1).2.1 (tkc l A E 1).2.2 ∧ RK p W1 w') := rint_any p a n c l (tkc l A E 0).2.1 (tkc l A E 0).2.2 W1 H1.out L1.out ⟨by have := AT.out 0; omega, by have := AT.out 0; omega⟩ hne
  go_wp2_with fail
  with_reducible refine C1.out.mono ?_
  rintro e W2 ⟨rfl, r1, k1⟩
  have H2 := hid r1
  have L2 := hid (k1.holds L1.out hne)
  replace FR := hid (k1.frs FR.out HQl.out hQ)
  replace BX := hid (BX.out.rk k1 hQ)
  replace HQl := hid (Nat.lt_of_lt_of_le HQl.out k1.size)
  have K2 := hid (K1.out.trans k1)
  clear C1 r1 k1 H1 L1 K1
  have C2 : Hid (Calls Try.prog 85 #[.pointer (some ⟨p, 0, none⟩)] W2 fun e w' => e = .returned (.int .i64 (tkc l A E 2).1) ∧ RdC w' p (.slice a n c) (tkc l A E 2).2.1 (tkc l A E 2).2.2 ∧ RK p W2 w') := rint64_any p a n c l (tkc l A E 1).2.1 (tkc l A E 1).2.2 W2 H2.out L2.out ⟨by have := AT.out 1; omega, by have := AT.out 1; omega⟩ hne
  go_wp2_with fail
  with_reducible refine C2.out.mono ?_
  rintro e W3 ⟨rfl, r2, k2⟩
  have H3 := hid r2
  have L3 := hid (k2.holds L2.out hne)
  replace FR := hid (k2.frs FR.out HQl.out hQ)
  replace BX := hid (BX.out.rk k2 hQ)
  replace HQl := hid (Nat.lt_of_lt_of_le HQl.out k2.size)
  have K3 := hid (K2.out.trans k2)
  clear C2 r2 k2 H2 L2 K2
  have C3 : Hid (Calls Try.prog 86 #[.pointer (some ⟨p, 0, none⟩)] W3 fun e w' => e = .returned (.int .i64 (tkc l A E 3).1) ∧ RdC w' p (.slice a n c) (tkc l A E 3).2.1 (tkc l A E 3).2.2 ∧ RK p W3 w') := rint_any p a n c l (tkc l A E 2).2.1 (tkc l A E 2).2.2 W3 H3.out L3.out ⟨by have := AT.out 2; omega, by have := AT.out 2; omega⟩ hne
  go_wp2_with fail
  with_reducible refine C3.out.mono ?_
  rintro e W4 ⟨rfl, r3, k3⟩
  have H4 := hid r3
  have L4 := hid (k3.holds L3.out hne)
  replace FR := hid (k3.frs FR.out HQl.out hQ)
  replace BX := hid (BX.out.rk k3 hQ)
  replace HQl := hid (Nat.lt_of_lt_of_le HQl.out k3.size)
  have K4 := hid (K3.out.trans k3)
  clear C3 r3 k3 H3 L3 K3
  have C4 : Hid (Calls Try.prog 86 #[.pointer (some ⟨p, 0, none⟩)] W4 fun e w' => e = .returned (.int .i64 (tkc l A E 4).1) ∧ RdC w' p (.slice a n c) (tkc l A E 4).2.1 (tkc l A E 4).2.2 ∧ RK p W4 w') := rint_any p a n c l (tkc l A E 3).2.1 (tkc l A E 3).2.2 W4 H4.out L4.out ⟨by have := AT.out 3; omega, by have := AT.out 3; omega⟩ hne
  go_wp2_with fail
  with_reducible refine C4.out.mono ?_
  rintro e W5 ⟨rfl, r4, k4⟩
  have H5 := hid r4
  have L5 := hid (k4.holds L4.out hne)
  replace FR := hid (k4.frs FR.out HQl.out hQ)
  replace BX := hid (BX.out.rk k4 hQ)
  replace HQl := hid (Nat.lt_of_lt_of_le HQl.out k4.size)
  have K5 := hid (K4.out.trans k4)
  clear C4 r4 k4 H4 L4 K4
  generalize hx0 : (tkc l A E 0).1 = x0 at *
  have X0 := hid hx0
  clear hx0
  generalize hx1 : (tkc l A E 1).1 = x1 at *
  have X1 := hid hx1
  clear hx1
  generalize hx2 : (tkc l A E 2).1 = x2 at *
  have X2 := hid hx2
  clear hx2
  generalize hx3 : (tkc l A E 3).1 = x3 at *
  have X3 := hid hx3
  clear hx3
  generalize hx4 : (tkc l A E 4).1 = x4 at *
  have X4 := hid hx4
  clear hx4
  have y0 := BX.out 0 (.int .i64 0) rfl
  have f0 := FR.out 0
  have y1 := BX.out 1 (.int .i64 0) rfl
  have f1 := FR.out 1
  have y2 := BX.out 2 (.int .i64 0) rfl
  have f2 := FR.out 2
  have y3 := BX.out 3 (.int .i64 0) rfl
  have f3 := FR.out 3
  have y4 := BX.out 4 (.int .i64 0) rfl
  have f4 := FR.out 4
  go_wp2_with fail
  have z0 : (((((W5.setCell ⟨QB, 0, none⟩ (.int .i64 x0)).setCell ⟨QB, 1, none⟩ (.int .i64 x1)).setCell ⟨QB, 2, none⟩ (.int .i64 x2)).setCell ⟨QB, 3, none⟩ (.int .i64 x3)).setCell ⟨QB, 4, none⟩ (.int .i64 x4)).cell? ⟨QB, 0, none⟩ = some (.int .i64 x0) := by simp [go_sem, y0, y1, y2, y3, y4]
  have z1 : (((((W5.setCell ⟨QB, 0, none⟩ (.int .i64 x0)).setCell ⟨QB, 1, none⟩ (.int .i64 x1)).setCell ⟨QB, 2, none⟩ (.int .i64 x2)).setCell ⟨QB, 3, none⟩ (.int .i64 x3)).setCell ⟨QB, 4, none⟩ (.int .i64 x4)).cell? ⟨QB, 1, none⟩ = some (.int .i64 x1) := by simp [go_sem, y0, y1, y2, y3, y4]
  have z2 : (((((W5.setCell ⟨QB, 0, none⟩ (.int .i64 x0)).setCell ⟨QB, 1, none⟩ (.int .i64 x1)).setCell ⟨QB, 2, none⟩ (.int .i64 x2)).setCell ⟨QB, 3, none⟩ (.int .i64 x3)).setCell ⟨QB, 4, none⟩ (.int .i64 x4)).cell? ⟨QB, 2, none⟩ = some (.int .i64 x2) := by simp [go_sem, y0, y1, y2, y3, y4]
  have z3 : (((((W5.setCell ⟨QB, 0, none⟩ (.int .i64 x0)).setCell ⟨QB, 1, none⟩ (.int .i64 x1)).setCell ⟨QB, 2, none⟩ (.int .i64 x2)).setCell ⟨QB, 3, none⟩ (.int .i64 x3)).setCell ⟨QB, 4, none⟩ (.int .i64 x4)).cell? ⟨QB, 3, none⟩ = some (.int .i64 x3) := by simp [go_sem, y0, y1, y2, y3, y4]
  have z4 : (((((W5.setCell ⟨QB, 0, none⟩ (.int .i64 x0)).setCell ⟨QB, 1, none⟩ (.int .i64 x1)).setCell ⟨QB, 2, none⟩ (.int .i64 x2)).setCell ⟨QB, 3, none⟩ (.int .i64 x3)).setCell ⟨QB, 4, none⟩ (.int .i64 x4)).cell? ⟨QB, 4, none⟩ = some (.int .i64 x4) := by simp [go_sem, y0, y1, y2, y3, y4]
  refine bodyPost_ret (v := .agg #[.int .i64 x0, .int .i64 x1, .int .i64 x2, .int .i64 x3, .int .i64 x4]) (by simp [results, Try.results97, go_sem, y0, y1, y2, y3, y4, z0, z1, z2, z3, z4]) rfl ?_
  obtain ⟨⟨q0, q1, q2⟩, u0, u1, u2⟩ := H5.out
  have nq : QB ≠ p := hQ
  have nq' : p ≠ QB := fun e => hQ e.symm
  refine ⟨by rw [X0.out, X1.out, X2.out, X3.out, X4.out], ⟨⟨?_, ?_, ?_⟩, ?_, ?_, ?_⟩, ?_⟩
  · simp [go_sem, q0, nq, nq']
  · simp [go_sem, q1, nq, nq']
  · simp [go_sem, q2, nq, nq']
  · simp [go_sem, u0]
  · simp [go_sem, u1]
  · simp [go_sem, u2]
  · exact (((((K5.out.set QB 0 _ (by omega)).set QB 1 _ (by omega)).set QB 2 _ (by omega)).set QB 3 _ (by omega)).set QB 4 _ (by omega))
set_option maxRecDepth 100000 in
set_option maxHeartbeats 8000000 in
theorem rdqueue_any (p : Nat) (a : Option Addr) (n c : Nat) (l : List Int) (A E : Int) (w : World) (h : RdC w p (.slice a n c) A E) (hl : HoldsB w a n c l) (h0 : 0 ≤ A) (h1 : A ≤ n) (hne : ∀ b o, a = some ⟨b, o, none⟩ → 0 < n → b ≠ p) :
    Calls Try.prog 95 #[.pointer (some ⟨p, 0, none⟩)] w fun e w' => e = .returned (.agg #[.int .i64 (tkc l A E 0).1, .int .i64 (tkc l A E 1).1, .int .i64 (tkc l A E 2).1, .int .i64 (tkc l A E 3).1, .int .i64 (tkc l A E 4).1, .int .i64 (tkc l A E 5).1, .int .i64 (tkc l A E 6).1]) ∧ RdC w' p (.slice a n c) (tkc l A E 6).2.1 (tkc l A E 6).2.2 ∧ RK p w w' := by
  have hlen := hl.1
  have hcap := hl.2.1
  have hcm := hl.2.2.1
  have hP := h.lt
  have AT := hid (tkc_at l A E h0 (by omega))
  go_enter Try.func95, Try.ntmps95
  go_upto_region 1 with fail
  have B0 := (Below.refl w.heap.size w).alloc (Nat.le_refl _) (.cells #[.int .i64 0, .int .i64 0, .int .i64 0, .int .i64 0, .int .i64 0, .int .i64 0, .int .i64 0] 25)
  have H0 := hid (h.below B0)
  have L0 := hid (hl.below B0)
  have K0 : Hid (RK p w (w.alloc (.cells #[.int .i64 0, .int .i64 0, .int .i64 0, .int .i64 0, .int .i64 0, .int .i64 0, .int .i64 0] 25))) := WK.of_below B0
  have BX := hid (Box.alloc w #[.int .i64 0, .int .i64 0, .int .i64 0, .int .i64 0, .int .i64 0, .int .i64 0, .int .i64 0] (25))
  have FR : Hid (∀ j, (w.alloc (.cells #[.int .i64 0, .int .i64 0, .int .i64 0, .int .i64 0, .int .i64 0, .int .i64 0, .int .i64 0] 25)).frozen? ⟨w.heap.size, j, none⟩ = false) := fun j => by simp [go_sem]
  have hQ : w.heap.size ≠ p := by omega
  have hQl : w.heap.size < (w.alloc (.cells #[.int .i64 0, .int .i64 0, .int .i64 0, .int .i64 0, .int .i64 0, .int .i64 0, .int .i64 0] 25)).heap.size := by simp
  have HQl := hid hQl
  clear h hl B0 hP hQl
  generalize (w.alloc (.cells #[.int .i64 0, .int .i64 0, .int .i64 0, .int .i64 0, .int .i64 0, .int .i64 0, .int .i64 0] 25)) = W0 at *
  generalize hq : w.heap.size = QB at *
  have C0 : Hid (Calls Try.prog 86 #[.pointer (some ⟨p, 0, none⟩)] W0 fun e w' => e = .returned (.int .i64 (tkc l A E 0).1) ∧ RdC w' p (.slice a n c) (tkc l A E 0).2.1 (tkc l A E 0).2.2 ∧ RK p W0 w') := rint_any p a n c l A E W0 H0.out L0.out ⟨by omega, by omega⟩ hne
  go_wp2_with fail
  with_reducible refine C0.out.mono ?_
  rintro e W1 ⟨rfl, r0, k0⟩
  have H1 := hid r0
  have L1 := hid (k0.holds L0.out hne)
  replace FR := hid (k0.frs FR.out HQl.out hQ)
  replace BX := hid (BX.out.rk k0 hQ)
  replace HQl := hid (Nat.lt_of_lt_of_le HQl.out k0.size)
  have K1 := hid (K0.out.trans k0)
  clear C0 r0 k0 H0 L0 K0
  have C1 : Hid (Calls Try.prog 86 #[.pointer (some ⟨p, 0, none⟩)] W1 fun e w' => e = .returned (.int .i64 (tkc l A E 1).1) ∧ RdC w' p (.slice a n c) (tkc l A E 1).2.1 (tkc l A E 1).2.2 ∧ RK p W1 w') := rint_any p a n c l (tkc l A E 0).2.1 (tkc l A E 0).2.2 W1 H1.out L1.out ⟨by have := AT.out 0; omega, by have := AT.out 0; omega⟩ hne
  go_wp2_with fail
  with_reducible refine C1.out.mono ?_
  rintro e W2 ⟨rfl, r1, k1⟩
  have H2 := hid r1
  have L2 := hid (k1.holds L1.out hne)
  replace FR := hid (k1.frs FR.out HQl.out hQ)
  replace BX := hid (BX.out.rk k1 hQ)
  replace HQl := hid (Nat.lt_of_lt_of_le HQl.out k1.size)
  have K2 := hid (K1.out.trans k1)
  clear C1 r1 k1 H1 L1 K1
  have C2 : Hid (Calls Try.prog 85 #[.pointer (some ⟨p, 0, none⟩)] W2 fun e w' => e = .returned (.int .i64 (tkc l A E 2).1) ∧ RdC w' p (.slice a n c) (tkc l A E 2).2.1 (tkc l A E 2).2.2 ∧ RK p W2 w') := rint64_any p a n c l (tkc l A E 1).2.1 (tkc l A E 1).2.2 W2 H2.out L2.out ⟨by have := AT.out 1; omega, by have := AT.out 1; omega⟩ hne
  go_wp2_with fail
  with_reducible refine C2.out.mono ?_
  rintro e W3 ⟨rfl, r2, k2⟩
  have H3 := hid r2
  have L3 := hid (k2.holds L2.out hne)
  replace FR := hid (k2.frs FR.out HQl.out hQ)
  replace BX := hid (BX.out.rk k2 hQ)
  replace HQl := hid (Nat.lt_of_lt_of_le HQl.out k2.size)
  have K3 := hid (K2.out.trans k2)
  clear C2 r2 k2 H2 L2 K2
  have C3 : Hid (Calls Try.prog 115 #[.pointer (some ⟨p, 0, none⟩)] W3 fun e w' => e = .returned (.agg #[.int .i64 (tkc l A E 3).1, .int .i64 (tkc l A E 4).1]) ∧ RdC w' p (.slice a n c) (tkc l A E 4).2.1 (tkc l A E 4).2.2 ∧ RK p W3 w') := rvec_any p a n c l (tkc l A E 2).2.1 (tkc l A E 2).2.2 W3 H3.out L3.out (by have := AT.out 2; omega) (by have := AT.out 2; omega) hne
  go_wp2_with fail
  with_reducible refine C3.out.mono ?_
  rintro e W4 ⟨rfl, r3, k3⟩
  have H4 := hid r3
  have L4 := hid (k3.holds L3.out hne)
  replace FR := hid (k3.frs FR.out HQl.out hQ)
  replace BX := hid (BX.out.rk k3 hQ)
  replace HQl := hid (Nat.lt_of_lt_of_le HQl.out k3.size)
  have K4 := hid (K3.out.trans k3)
  clear C3 r3 k3 H3 L3 K3
  have C4 : Hid (Calls Try.prog 115 #[.pointer (some ⟨p, 0, none⟩)] W4 fun e w' => e = .returned (.agg #[.int .i64 (tkc l A E 5).1, .int .i64 (tkc l A E 6).1]) ∧ RdC w' p (.slice a n c) (tkc l A E 6).2.1 (tkc l A E 6).2.2 ∧ RK p W4 w') := rvec_any p a n c l (tkc l A E 4).2.1 (tkc l A E 4).2.2 W4 H4.out L4.out (by have := AT.out 4; omega) (by have := AT.out 4; omega) hne
  go_wp2_with fail
  with_reducible refine C4.out.mono ?_
  rintro e W5 ⟨rfl, r4, k4⟩
  have H5 := hid r4
  have L5 := hid (k4.holds L4.out hne)
  replace FR := hid (k4.frs FR.out HQl.out hQ)
  replace BX := hid (BX.out.rk k4 hQ)
  replace HQl := hid (Nat.lt_of_lt_of_le HQl.out k4.size)
  have K5 := hid (K4.out.trans k4)
  clear C4 r4 k4 H4 L4 K4
  generalize hx0 : (tkc l A E 0).1 = x0 at *
  have X0 := hid hx0
  clear hx0
  generalize hx1 : (tkc l A E 1).1 = x1 at *
  have X1 := hid hx1
  clear hx1
  generalize hx2 : (tkc l A E 2).1 = x2 at *
  have X2 := hid hx2
  clear hx2
  generalize hx3 : (tkc l A E 3).1 = x3 at *
  have X3 := hid hx3
  clear hx3
  generalize hx4 : (tkc l A E 4).1 = x4 at *
  have X4 := hid hx4
  clear hx4
  generalize hx5 : (tkc l A E 5).1 = x5 at *
  have X5 := hid hx5
  clear hx5
  generalize hx6 : (tkc l A E 6).1 = x6 at *
  have X6 := hid hx6
  clear hx6
  have y0 := BX.out 0 (.int .i64 0) rfl
  have f0 := FR.out 0
  have y1 := BX.out 1 (.int .i64 0) rfl
  have f1 := FR.out 1
  have y2 := BX.out 2 (.int .i64 0) rfl
  have f2 := FR.out 2
  have y3 := BX.out 3 (.int .i64 0) rfl
  have f3 := FR.out 3
  have y4 := BX.out 4 (.int .i64 0) rfl
  have f4 := FR.out 4
  have y5 := BX.out 5 (.int .i64 0) rfl
  have f5 := FR.out 5
  have y6 := BX.out 6 (.int .i64 0) rfl
  have f6 := FR.out 6
  go_wp2_with fail
  have z0 : (((((((W5.setCell ⟨QB, 0, none⟩ (.int .i64 x0)).setCell ⟨QB, 1, none⟩ (.int .i64 x1)).setCell ⟨QB, 2, none⟩ (.int .i64 x2)).setCell ⟨QB, 3, none⟩ (.int .i64 x3)).setCell ⟨QB, 4, none⟩ (.int .i64 x4)).setCell ⟨QB, 5, none⟩ (.int .i64 x5)).setCell ⟨QB, 6, none⟩ (.int .i64 x6)).cell? ⟨QB, 0, none⟩ = some (.int .i64 x0) := by simp [go_sem, y0, y1, y2, y3, y4, y5, y6]
  have z1 : (((((((W5.setCell ⟨QB, 0, none⟩ (.int .i64 x0)).setCell ⟨QB, 1, none⟩ (.int .i64 x1)).setCell ⟨QB, 2, none⟩ (.int .i64 x2)).setCell ⟨QB, 3, none⟩ (.int .i64 x3)).setCell ⟨QB, 4, none⟩ (.int .i64 x4)).setCell ⟨QB, 5, none⟩ (.int .i64 x5)).setCell ⟨QB, 6, none⟩ (.int .i64 x6)).cell? ⟨QB, 1, none⟩ = some (.int .i64 x1) := by simp [go_sem, y0, y1, y2, y3, y4, y5, y6]
  have z2 : (((((((W5.setCell ⟨QB, 0, none⟩ (.int .i64 x0)).setCell ⟨QB, 1, none⟩ (.int .i64 x1)).setCell ⟨QB, 2, none⟩ (.int .i64 x2)).setCell ⟨QB, 3, none⟩ (.int .i64 x3)).setCell ⟨QB, 4, none⟩ (.int .i64 x4)).setCell ⟨QB, 5, none⟩ (.int .i64 x5)).setCell ⟨QB, 6, none⟩ (.int .i64 x6)).cell? ⟨QB, 2, none⟩ = some (.int .i64 x2) := by simp [go_sem, y0, y1, y2, y3, y4, y5, y6]
  have z3 : (((((((W5.setCell ⟨QB, 0, none⟩ (.int .i64 x0)).setCell ⟨QB, 1, none⟩ (.int .i64 x1)).setCell ⟨QB, 2, none⟩ (.int .i64 x2)).setCell ⟨QB, 3, none⟩ (.int .i64 x3)).setCell ⟨QB, 4, none⟩ (.int .i64 x4)).setCell ⟨QB, 5, none⟩ (.int .i64 x5)).setCell ⟨QB, 6, none⟩ (.int .i64 x6)).cell? ⟨QB, 3, none⟩ = some (.int .i64 x3) := by simp [go_sem, y0, y1, y2, y3, y4, y5, y6]
  have z4 : (((((((W5.setCell ⟨QB, 0, none⟩ (.int .i64 x0)).setCell ⟨QB, 1, none⟩ (.int .i64 x1)).setCell ⟨QB, 2, none⟩ (.int .i64 x2)).setCell ⟨QB, 3, none⟩ (.int .i64 x3)).setCell ⟨QB, 4, none⟩ (.int .i64 x4)).setCell ⟨QB, 5, none⟩ (.int .i64 x5)).setCell ⟨QB, 6, none⟩ (.int .i64 x6)).cell? ⟨QB, 4, none⟩ = some (.int .i64 x4) := by simp [go_sem, y0, y1, y2, y3, y4, y5, y6]
  have z5 : (((((((W5.setCell ⟨QB, 0, none⟩ (.int .i64 x0)).setCell ⟨QB, 1, none⟩ (.int .i64 x1)).setCell ⟨QB, 2, none⟩ (.int .i64 x2)).setCell ⟨QB, 3, none⟩ (.int .i64 x3)).setCell ⟨QB, 4, none⟩ (.int .i64 x4)).setCell ⟨QB, 5, none⟩ (.int .i64 x5)).setCell ⟨QB, 6, none⟩ (.int .i64 x6)).cell? ⟨QB, 5, none⟩ = some (.int .i64 x5) := by simp [go_sem, y0, y1, y2, y3, y4, y5, y6]
  have z6 : (((((((W5.setCell ⟨QB, 0, none⟩ (.int .i64 x0)).setCell ⟨QB, 1, none⟩ (.int .i64 x1)).setCell ⟨QB, 2, none⟩ (.int .i64 x2)).setCell ⟨QB, 3, none⟩ (.int .i64 x3)).setCell ⟨QB, 4, none⟩ (.int .i64 x4)).setCell ⟨QB, 5, none⟩ (.int .i64 x5)).setCell ⟨QB, 6, none⟩ (.int .i64 x6)).cell? ⟨QB, 6, none⟩ = some (.int .i64 x6) := by simp [go_sem, y0, y1, y2, y3, y4, y5, y6]
  refine bodyPost_ret (v := .agg #[.int .i64 x0, .int .i64 x1, .int .i64 x2, .int .i64 x3, .int .i64 x4, .int .i64 x5, .int .i64 x6]) (by simp [results, Try.results95, go_sem, y0, y1, y2, y3, y4, y5, y6, z0, z1, z2, z3, z4, z5, z6]) rfl ?_
  obtain ⟨⟨q0, q1, q2⟩, u0, u1, u2⟩ := H5.out
  have nq : QB ≠ p := hQ
  have nq' : p ≠ QB := fun e => hQ e.symm
  refine ⟨by rw [X0.out, X1.out, X2.out, X3.out, X4.out, X5.out, X6.out], ⟨⟨?_, ?_, ?_⟩, ?_, ?_, ?_⟩, ?_⟩
  · simp [go_sem, q0, nq, nq']
  · simp [go_sem, q1, nq, nq']
  · simp [go_sem, q2, nq, nq']
  · simp [go_sem, u0]
  · simp [go_sem, u1]
  · simp [go_sem, u2]
  · exact (((((((K5.out.set QB 0 _ (by omega)).set QB 1 _ (by omega)).set QB 2 _ (by omega)).set QB 3 _ (by omega)).set QB 4 _ (by omega)).set QB 5 _ (by omega)).set QB 6 _ (by omega))
end Go.Proofs.Ytkjglpgjflkmbaa
