/-
  Contracts of command: the reader's place; two numbers.
-/
import Derived.Test.YtkjglpgjflkmbaaCM
namespace Go.Proofs.Ytkjglpgjflkmbaa
open Go.RowKit Go.Deep
set_option linter.unusedVariables false
set_option linter.unusedSimpArgs false

theorem rd_at (l : List Int) (p : Int) (h0 : 0 ≤ p) (h1 : p ≤ l.length) : 0 ≤ (rd l p).2.1 ∧ (rd l p).2.1 ≤ l.length := by
  unfold rd
  split
  · simp only; omega
  split
  · simp only; omega
  split
  · simp only; omega
  split
  · simp only; omega
  split
  · simp only; omega
  split
  · simp only; omega
  · simp only; omega
theorem tkI_at (l : List Int) (A E : Int) (h0 : 0 ≤ A) (h1 : A ≤ l.length) : 0 ≤ (tkI l A E).2.1 ∧ (tkI l A E).2.1 ≤ l.length := by
  unfold tkI
  split
  · exact rd_at l A h0 h1
  · exact ⟨h0, h1⟩
theorem RdC.below {W W' : World} {p : Nat} {b : Value} {A E : Int} (h : RdC W p b A E) (hb : Below W.heap.size W W') : RdC W' p b A E := by
  obtain ⟨⟨h1, h2, h3⟩, f1, f2, f3⟩ := h
  exact ⟨⟨keepc hb h1, keepc hb h2, keepc hb h3⟩, keepf hb h1 f1, keepf hb h2 f2, keepf hb h3 f3⟩
theorem RdC.lt {W : World} {p : Nat} {b : Value} {A E : Int} (h : RdC W p b A E) : p < W.heap.size := World.block_lt_of_cell? _ _ h.1.1
theorem RK.keep {p : Nat} {A B : World} (h : RK p A B) {a : Addr} {u : Value} (hc : A.cell? a = some u) (h1 : a.block ≠ p) : B.cell? a = some u := h.cell hc h1 (by intro e; cases e)
theorem RK.froz {p : Nat} {A B : World} (h : RK p A B) {a : Addr} {u : Value} (hc : A.cell? a = some u) (h1 : a.block ≠ p) : B.frozen? a = A.frozen? a :=
  World.frozen?_of_block (h.block a.block (World.block_lt_of_cell? _ _ hc) h1 (by intro e; cases e))

theorem RK.set {p : Nat} {A B : World} (h : RK p A B) (q j : Nat) (u : Value) (hq : A.heap.size ≤ q) : RK p A (B.setCell ⟨q, j, none⟩ u) :=
  ⟨h.os, h.tape, h.output, by simpa using h.size, fun b hb h1 h2 => (Below.heap_setCell B _ _ b (fun e => by have : b = q := e; omega)).trans (h.block b hb h1 h2), fun _ e => .inl e⟩

set_option maxRecDepth 100000 in
set_option maxHeartbeats 4000000 in
theorem rvec_any (p : Nat) (a : Option Addr) (n c : Nat) (l : List Int) (A E : Int) (w : World) (h : RdC w p (.slice a n c) A E) (hl : HoldsB w a n c l) (h0 : 0 ≤ A) (h1 : A ≤ n) (hne : ∀ b o, a = some ⟨b, o, none⟩ → 0 < n → b ≠ p) :
    Calls Try.prog 115 #[.pointer (some ⟨p, 0, none⟩)] w fun e w' => e = .returned (.agg #[.int .i64 (tkI l A E).1, .int .i64 (tkI l (tkI l A E).2.1 (tkI l A E).2.2).1]) ∧ RdC w' p (.slice a n c) (tkI l (tkI l A E).2.1 (tkI l A E).2.2).2.1 (tkI l (tkI l A E).2.1 (tkI l A E).2.2).2.2 ∧ RK p w w' := by
  have hlen := hl.1
  have hcap := hl.2.1
  have hcm := hl.2.2.1
  have hP := h.lt
  have h2 := tkI_at l A E h0 (by omega)
  go_enter Try.func115, Try.ntmps115
  go_upto_region 1 with fail
  have B0 := (Below.refl w.heap.size w).alloc (Nat.le_refl _) (.cells #[.int .i64 0, .int .i64 0] 23)
  have H0 := hid (h.below B0)
  have L0 := hid (hl.below B0)
  have K0 : Hid (RK p w (w.alloc (.cells #[.int .i64 0, .int .i64 0] 23))) := WK.of_below B0
  have y0 : (w.alloc (.cells #[.int .i64 0, .int .i64 0] 23)).cell? ⟨w.heap.size, 0, none⟩ = some (.int .i64 0) := by simp [go_sem]
  have y1 : (w.alloc (.cells #[.int .i64 0, .int .i64 0] 23)).cell? ⟨w.heap.size, 1, none⟩ = some (.int .i64 0) := by simp [go_sem]
  have f0 : (w.alloc (.cells #[.int .i64 0, .int .i64 0] 23)).frozen? ⟨w.heap.size, 0, none⟩ = false := by simp [go_sem]
  have f1 : (w.alloc (.cells #[.int .i64 0, .int .i64 0] 23)).frozen? ⟨w.heap.size, 1, none⟩ = false := by simp [go_sem]
  have hQ : w.heap.size ≠ p := by omega
  clear h hl B0 hP
  generalize (w.alloc (.cells #[.int .i64 0, .int .i64 0] 23)) = W0 at *
  generalize hq : w.heap.size = QB at *
  have C1 := hid (rint64_any p a n c l A E W0 H0.out L0.out ⟨by omega, by omega⟩ hne)
  have S2 := hid h2
  clear h2
  have f0' := hid f0
  have f1' := hid f1
  clear f0 f1
  go_wp2_with fail
  with_reducible refine C1.out.mono ?_
  rintro e W1 ⟨rfl, r1, k1⟩
  have H1 := hid r1
  have L1 := hid (k1.holds L0.out hne)
  have g0 := hid ((k1.froz y0 hQ).trans f0'.out)
  have g1 := hid ((k1.froz y1 hQ).trans f1'.out)
  replace y0 := k1.keep y0 hQ
  replace y1 := k1.keep y1 hQ
  have K1 := hid (K0.out.trans k1)
  clear C1 r1 k1 H0 L0 K0 f0' f1'
  have C2 := hid (rint64_any p a n c l (tkI l A E).2.1 (tkI l A E).2.2 W1 H1.out L1.out ⟨by have := S2.out; omega, by have := S2.out; omega⟩ hne)
  generalize hs : tkI l A E = s1 at *
  obtain ⟨x1, A1, E1⟩ := s1
  have ES1 := hid hs
  clear hs
  go_wp2_with fail
  with_reducible refine C2.out.mono ?_
  rintro e W2 ⟨rfl, r2, k2⟩
  have H2 := hid r2
  have f0 := (k2.froz y0 hQ).trans g0.out
  have f1 := (k2.froz y1 hQ).trans g1.out
  replace y0 := k2.keep y0 hQ
  replace y1 := k2.keep y1 hQ
  have K2 := hid (K1.out.trans k2)
  clear C2 r2 k2 H1 L1 K1 g0 g1
  generalize hs : tkI l A1 E1 = s2 at *
  obtain ⟨x2, A2, E2⟩ := s2
  have ES2 := hid hs
  clear hs
  go_wp2_with fail
  have z0 : ((W2.setCell ⟨QB, 0, none⟩ (.int .i64 x1)).setCell ⟨QB, 1, none⟩ (.int .i64 x2)).cell? ⟨QB, 0, none⟩ = some (.int .i64 x1) := by simp [go_sem, y0, y1]
  have z1 : ((W2.setCell ⟨QB, 0, none⟩ (.int .i64 x1)).setCell ⟨QB, 1, none⟩ (.int .i64 x2)).cell? ⟨QB, 1, none⟩ = some (.int .i64 x2) := by simp [go_sem, y0, y1]
  refine bodyPost_ret (v := .agg #[.int .i64 x1, .int .i64 x2]) (by simp [results, Try.results115, go_sem, y0, y1, z0, z1]) rfl ?_
  rw [ES1.out]
  simp only
  rw [ES2.out]
  obtain ⟨⟨q0, q1, q2⟩, u0, u1, u2⟩ := H2.out
  have nq : QB ≠ p := hQ
  have nq' : p ≠ QB := fun e => hQ e.symm
  refine ⟨rfl, ⟨⟨?_, ?_, ?_⟩, ?_, ?_, ?_⟩, ?_⟩
  · simp [go_sem, q0, nq, nq']
  · simp [go_sem, q1, nq, nq']
  · simp [go_sem, q2, nq, nq']
  · simp [go_sem, u0]
  · simp [go_sem, u1]
  · simp [go_sem, u2]
  · exact (K2.out.set QB 0 _ (by omega)).set QB 1 _ (by omega)
end Go.Proofs.Ytkjglpgjflkmbaa
