/-
  Contracts of command: the reader's entry.
-/
import Derived.Test.YtkjglpgjflkmbaaCY
namespace Go.Proofs.Ytkjglpgjflkmbaa
open Go.RowKit Go.Deep Go.Maps
set_option linter.unusedVariables false
set_option linter.unusedSimpArgs false

/-- An entry that is read: three numbers and a command. -/
def enN (l : List Int) (A E : Int) (k : Nat) : Int × Int × Int := cmN l (tkc l A E 2).2.1 (tkc l A E 2).2.2 k
def enK (l : List Int) (A E : Int) : Int := (cmK l (tkc l A E 2).2.1 (tkc l A E 2).2.2).1
def enC (l : List Int) (A E : Int) : Nat := cmC l (tkc l A E 2).2.1 (tkc l A E 2).2.2
def enL (l : List Int) (A E : Int) : List Int := cmL l (tkc l A E 2).2.1 (tkc l A E 2).2.2
def enE (l : List Int) (A E : Int) : Int × Int × Int := cmE l (tkc l A E 2).2.1 (tkc l A E 2).2.2
theorem enE_at (l : List Int) (A E : Int) (h0 : 0 ≤ A) (h1 : A ≤ l.length) : 0 ≤ (enE l A E).2.1 ∧ (enE l A E).2.1 ≤ l.length := by
  have h := tkc_at l A E h0 h1 2
  exact cmE_at l _ _ h.1 h.2
set_option maxRecDepth 100000 in
set_option maxHeartbeats 8000000 in
theorem rdentry_any (p : Nat) (a : Option Addr) (n c : Nat) (l : List Int) (A E : Int) (w : World) (h : RdC w p (.slice a n c) A E) (hl : HoldsB w a n c l) (h0 : 0 ≤ A) (h1 : A ≤ n) (hne : ∀ b o, a = some ⟨b, o, none⟩ → 0 < n → b ≠ p) :
    Calls Try.prog 51 #[.pointer (some ⟨p, 0, none⟩)] w fun e w' => ∃ v, e = .returned (.agg #[.int .i64 (tkc l A E 0).1, .int .i64 (tkc l A E 1).1, .int .i64 (tkc l A E 2).1, .int .i64 (enK l A E), .int .i64 (enN l A E 0).1, .int .i64 (enN l A E 1).1, .int .i64 (enN l A E 2).1, .int .i64 (enN l A E 3).1, .int .i64 (enN l A E 4).1, .int .i64 (enN l A E 5).1, .int .i64 (enN l A E 6).1, .int .i64 (enN l A E 7).1, .int .i64 (enN l A E 8).1, .int .i64 (enN l A E 9).1, .int .i64 (enN l A E 10).1, .int .i64 (enN l A E 11).1, .int .i64 (enN l A E 12).1, .int .i64 (enN l A E 13).1, .int .i64 (enN l A E 14).1, .int .i64 (enN l A E 15).1, .int .i64 (enN l A E 16).1, .int .i64 (enN l A E 17).1, .int .i64 (enN l A E 18).1, .int .i64 (enN l A E 19).1, .int .i64 (enN l A E 20).1, v, .int .i64 (enE l A E).1]) ∧ OwnN w.heap.size w' v (enC l A E) (enL l A E) ∧ RdC w' p (.slice a n c) (enE l A E).2.1 (enE l A E).2.2 ∧ RK p w w' := by
  have hlen := hl.1
  have hnm := hl.2.1
  have hP := h.lt
  go_enter Try.func51, Try.ntmps51
  go_upto_region 1 with fail
  have B0 := (Below.refl w.heap.size w).alloc (Nat.le_refl _) (.cells #[.int .i64 0, .int .i64 0, .int .i64 0, .int .i64 0, .int .i64 0, .int .i64 0, .int .i64 0, .int .i64 0, .int .i64 0, .int .i64 0, .int .i64 0, .int .i64 0, .int .i64 0, .int .i64 0, .int .i64 0, .int .i64 0, .int .i64 0, .int .i64 0, .int .i64 0, .int .i64 0, .int .i64 0, .int .i64 0, .int .i64 0, .int .i64 0, .int .i64 0, .slice none 0 0, .int .i64 0] 34)
  have H0 := hid (h.below B0)
  have L0 := hid (hl.below B0)
  have K0 : Hid (RK p w (w.alloc (.cells #[.int .i64 0, .int .i64 0, .int .i64 0, .int .i64 0, .int .i64 0, .int .i64 0, .int .i64 0, .int .i64 0, .int .i64 0, .int .i64 0, .int .i64 0, .int .i64 0, .int .i64 0, .int .i64 0, .int .i64 0, .int .i64 0, .int .i64 0, .int .i64 0, .int .i64 0, .int .i64 0, .int .i64 0, .int .i64 0, .int .i64 0, .int .i64 0, .int .i64 0, .slice none 0 0, .int .i64 0] 34))) := WK.of_below B0
  have BX := hid (Blk.alloc w #[.int .i64 0, .int .i64 0, .int .i64 0, .int .i64 0, .int .i64 0, .int .i64 0, .int .i64 0, .int .i64 0, .int .i64 0, .int .i64 0, .int .i64 0, .int .i64 0, .int .i64 0, .int .i64 0, .int .i64 0, .int .i64 0, .int .i64 0, .int .i64 0, .int .i64 0, .int .i64 0, .int .i64 0, .int .i64 0, .int .i64 0, .int .i64 0, .int .i64 0, .slice none 0 0, .int .i64 0] (34))
  have hQ : w.heap.size ≠ p := by omega
  clear h hl B0
  generalize (w.alloc (.cells #[.int .i64 0, .int .i64 0, .int .i64 0, .int .i64 0, .int .i64 0, .int .i64 0, .int .i64 0, .int .i64 0, .int .i64 0, .int .i64 0, .int .i64 0, .int .i64 0, .int .i64 0, .int .i64 0, .int .i64 0, .int .i64 0, .int .i64 0, .int .i64 0, .int .i64 0, .int .i64 0, .int .i64 0, .int .i64 0, .int .i64 0, .int .i64 0, .int .i64 0, .slice none 0 0, .int .i64 0] 34)) = W0 at *
  generalize hq : w.heap.size = QB at *
  have AT := hid (tkc_at l A E h0 (by omega))
  have C0 : Hid (Calls Try.prog 85 #[.pointer (some ⟨p, 0, none⟩)] W0 fun e w' => e = .returned (.int .i64 (tkc l A E 0).1) ∧ RdC w' p (.slice a n c) ((tkc l A E 0).2.1) ((tkc l A E 0).2.2) ∧ RK p W0 w') := by
    exact rint64_any p a n c l A E W0 H0.out L0.out ⟨by omega, by omega⟩ hne
  go_wp2_with fail
  with_reducible refine C0.out.mono ?_
  rintro e W1 ⟨rfl, r, k⟩
  have H1 := hid r
  have L1 := hid (k.holds L0.out hne)
  replace BX := hid (BX.out.rk k hQ)
  have K1 := hid (K0.out.trans k)
  clear C0 r k H0 L0 K0
  have C1 : Hid (Calls Try.prog 86 #[.pointer (some ⟨p, 0, none⟩)] W1 fun e w' => e = .returned (.int .i64 (tkc l A E 1).1) ∧ RdC w' p (.slice a n c) ((tkc l A E 1).2.1) ((tkc l A E 1).2.2) ∧ RK p W1 w') := by
    exact rint_any p a n c l (tkc l A E 0).2.1 (tkc l A E 0).2.2 W1 H1.out L1.out ⟨by have := AT.out 0; omega, by have := AT.out 0; omega⟩ hne
  go_wp2_with fail
  with_reducible refine C1.out.mono ?_
  rintro e W2 ⟨rfl, r, k⟩
  have H2 := hid r
  have L2 := hid (k.holds L1.out hne)
  replace BX := hid (BX.out.rk k hQ)
  have K2 := hid (K1.out.trans k)
  clear C1 r k H1 L1 K1
  have C2 : Hid (Calls Try.prog 86 #[.pointer (some ⟨p, 0, none⟩)] W2 fun e w' => e = .returned (.int .i64 (tkc l A E 2).1) ∧ RdC w' p (.slice a n c) ((tkc l A E 2).2.1) ((tkc l A E 2).2.2) ∧ RK p W2 w') := by
    exact rint_any p a n c l (tkc l A E 1).2.1 (tkc l A E 1).2.2 W2 H2.out L2.out ⟨by have := AT.out 1; omega, by have := AT.out 1; omega⟩ hne
  go_wp2_with fail
  with_reducible refine C2.out.mono ?_
  rintro e W3 ⟨rfl, r, k⟩
  have H3 := hid r
  have L3 := hid (k.holds L2.out hne)
  replace BX := hid (BX.out.rk k hQ)
  have K3 := hid (K2.out.trans k)
  clear C2 r k H2 L2 K2
  have C3 : Hid (Calls Try.prog 87 #[.pointer (some ⟨p, 0, none⟩)] W3 fun e w' => ∃ v, e = .returned (.agg #[.int .i64 (enK l A E), .int .i64 (enN l A E 0).1, .int .i64 (enN l A E 1).1, .int .i64 (enN l A E 2).1, .int .i64 (enN l A E 3).1, .int .i64 (enN l A E 4).1, .int .i64 (enN l A E 5).1, .int .i64 (enN l A E 6).1, .int .i64 (enN l A E 7).1, .int .i64 (enN l A E 8).1, .int .i64 (enN l A E 9).1, .int .i64 (enN l A E 10).1, .int .i64 (enN l A E 11).1, .int .i64 (enN l A E 12).1, .int .i64 (enN l A E 13).1, .int .i64 (enN l A E 14).1, .int .i64 (enN l A E 15).1, .int .i64 (enN l A E 16).1, .int .i64 (enN l A E 17).1, .int .i64 (enN l A E 18).1, .int .i64 (enN l A E 19).1, .int .i64 (enN l A E 20).1, v, .int .i64 (enE l A E).1]) ∧ OwnN W3.heap.size w' v (enC l A E) (enL l A E) ∧ RdC w' p (.slice a n c) ((enE l A E).2.1) ((enE l A E).2.2) ∧ RK p W3 w') := by
    exact rdcommand_any p a n c l (tkc l A E 2).2.1 (tkc l A E 2).2.2 W3 H3.out L3.out (by have := AT.out 2; omega) (by have := AT.out 2; omega) hne
  go_wp2_with fail
  with_reducible refine C3.out.mono ?_
  rintro e W4 ⟨v, rfl, ow, r, k⟩
  have H4 := hid r
  have L4 := hid (k.holds L3.out hne)
  have OW := hid (ow.weaken (b' := QB + 1) (by have := BX.out.lt; omega))
  clear ow
  replace BX := hid (BX.out.rk k hQ)
  have K4 := hid (K3.out.trans k)
  clear C3 r k H3 L3 K3
  obtain ⟨va, vc, rfl⟩ := OW.out.form
  generalize hx0 : (tkc l A E 0).1 = x0 at *
  have X0 := hid hx0
  clear hx0
  generalize hx1 : (tkc l A E 1).1 = x1 at *
  have X1 := hid hx1
  clear hx1
  generalize hx2 : (tkc l A E 2).1 = x2 at *
  have X2 := hid hx2
  clear hx2
  generalize hx3 : (enK l A E) = x3 at *
  have X3 := hid hx3
  clear hx3
  generalize hx4 : (enN l A E 0).1 = x4 at *
  have X4 := hid hx4
  clear hx4
  generalize hx5 : (enN l A E 1).1 = x5 at *
  have X5 := hid hx5
  clear hx5
  generalize hx6 : (enN l A E 2).1 = x6 at *
  have X6 := hid hx6
  clear hx6
  generalize hx7 : (enN l A E 3).1 = x7 at *
  have X7 := hid hx7
  clear hx7
  generalize hx8 : (enN l A E 4).1 = x8 at *
  have X8 := hid hx8
  clear hx8
  generalize hx9 : (enN l A E 5).1 = x9 at *
  have X9 := hid hx9
  clear hx9
  generalize hx10 : (enN l A E 6).1 = x10 at *
  have X10 := hid hx10
  clear hx10
  generalize hx11 : (enN l A E 7).1 = x11 at *
  have X11 := hid hx11
  clear hx11
  generalize hx12 : (enN l A E 8).1 = x12 at *
  have X12 := hid hx12
  clear hx12
  generalize hx13 : (enN l A E 9).1 = x13 at *
  have X13 := hid hx13
  clear hx13
  generalize hx14 : (enN l A E 10).1 = x14 at *
  have X14 := hid hx14
  clear hx14
  generalize hx15 : (enN l A E 11).1 = x15 at *
  have X15 := hid hx15
  clear hx15
  generalize hx16 : (enN l A E 12).1 = x16 at *
  have X16 := hid hx16
  clear hx16
  generalize hx17 : (enN l A E 13).1 = x17 at *
  have X17 := hid hx17
  clear hx17
  generalize hx18 : (enN l A E 14).1 = x18 at *
  have X18 := hid hx18
  clear hx18
  generalize hx19 : (enN l A E 15).1 = x19 at *
  have X19 := hid hx19
  clear hx19
  generalize hx20 : (enN l A E 16).1 = x20 at *
  have X20 := hid hx20
  clear hx20
  generalize hx21 : (enN l A E 17).1 = x21 at *
  have X21 := hid hx21
  clear hx21
  generalize hx22 : (enN l A E 18).1 = x22 at *
  have X22 := hid hx22
  clear hx22
  generalize hx23 : (enN l A E 19).1 = x23 at *
  have X23 := hid hx23
  clear hx23
  generalize hx24 : (enN l A E 20).1 = x24 at *
  have X24 := hid hx24
  clear hx24
  generalize hx26 : (enE l A E).1 = x26 at *
  have X26 := hid hx26
  clear hx26
  have BH := BX.out
  unfold Blk at BH
  go_wp2_with (first | refine wpList_built rfl 34 _ rfl #[.int .i64 x0, .int .i64 x1, .int .i64 x2, .int .i64 x3, .int .i64 x4, .int .i64 x5, .int .i64 x6, .int .i64 x7, .int .i64 x8, .int .i64 x9, .int .i64 x10, .int .i64 x11, .int .i64 x12, .int .i64 x13, .int .i64 x14, .int .i64 x15, .int .i64 x16, .int .i64 x17, .int .i64 x18, .int .i64 x19, .int .i64 x20, .int .i64 x21, .int .i64 x22, .int .i64 x23, .int .i64 x24, .slice va (enC l A E) vc, .int .i64 x26] (by kernel_rfl) ?_ | refine wpList_store_row rfl 34 (.tmp 2) (.tmp 11) rfl QB #[.int .i64 x0, .int .i64 x1, .int .i64 x2, .int .i64 x3, .int .i64 x4, .int .i64 x5, .int .i64 x6, .int .i64 x7, .int .i64 x8, .int .i64 x9, .int .i64 x10, .int .i64 x11, .int .i64 x12, .int .i64 x13, .int .i64 x14, .int .i64 x15, .int .i64 x16, .int .i64 x17, .int .i64 x18, .int .i64 x19, .int .i64 x20, .int .i64 x21, .int .i64 x22, .int .i64 x23, .int .i64 x24, .slice va (enC l A E) vc, .int .i64 x26] rfl rfl 34 _ BH sizeEnt rfl (by simp [Value.oneCell']) ?_)
  clear BH
  refine bodyPost_ret (results_cell rfl rfl ((BX.out.row #[.int .i64 x0, .int .i64 x1, .int .i64 x2, .int .i64 x3, .int .i64 x4, .int .i64 x5, .int .i64 x6, .int .i64 x7, .int .i64 x8, .int .i64 x9, .int .i64 x10, .int .i64 x11, .int .i64 x12, .int .i64 x13, .int .i64 x14, .int .i64 x15, .int .i64 x16, .int .i64 x17, .int .i64 x18, .int .i64 x19, .int .i64 x20, .int .i64 x21, .int .i64 x22, .int .i64 x23, .int .i64 x24, .slice va (enC l A E) vc, .int .i64 x26]).loadVar Try.underlying34 rfl sizeEnt)) rfl ?_
  refine ⟨_, by rw [X0.out, X1.out, X2.out, X3.out, X4.out, X5.out, X6.out, X7.out, X8.out, X9.out, X10.out, X11.out, X12.out, X13.out, X14.out, X15.out, X16.out, X17.out, X18.out, X19.out, X20.out, X21.out, X22.out, X23.out, X24.out, X26.out], (OW.out.row (by omega) _).weaken (by omega), H4.out.same (setRow_other _ _ _ _ (fun e => hQ e.symm)), K4.out.row _ _ (by omega)⟩
end Go.Proofs.Ytkjglpgjflkmbaa
