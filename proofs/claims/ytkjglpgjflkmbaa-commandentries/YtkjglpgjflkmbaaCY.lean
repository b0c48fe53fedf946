/-
  Contracts of command: the reader's command.
-/
import Derived.Test.YtkjglpgjflkmbaaCX
namespace Go.Proofs.Ytkjglpgjflkmbaa
open Go.RowKit Go.Deep Go.Maps
set_option linter.unusedVariables false
set_option linter.unusedSimpArgs false

/-- A command that is read: its Kind, its numbers, and behind all of it. -/
def cmK (l : List Int) (A E : Int) : Int × Int × Int := upT l A E 9223372036854775807 4
def cmN (l : List Int) (A E : Int) (k : Nat) : Int × Int × Int := tkc l (cmK l A E).2.1 (cmK l A E).2.2 k
def cmC (l : List Int) (A E : Int) : Nat := taC l (cmN l A E 15).2.1 (cmN l A E 15).2.2
def cmL (l : List Int) (A E : Int) : List Int := taL l (cmN l A E 15).2.1 (cmN l A E 15).2.2
def cmE (l : List Int) (A E : Int) : Int × Int × Int := taE l (cmN l A E 15).2.1 (cmN l A E 15).2.2
theorem cmK_at (l : List Int) (A E : Int) (h0 : 0 ≤ A) (h1 : A ≤ l.length) : 0 ≤ (cmK l A E).2.1 ∧ (cmK l A E).2.1 ≤ l.length := upT_at l A E _ _ h0 h1
theorem cmK_bd (l : List Int) (A E : Int) (hb : BB l) : 0 ≤ (cmK l A E).1 ∧ (cmK l A E).1 ≤ 9223372036854775807 := upT_bd l A E _ _ hb (by omega)
theorem cmN_at (l : List Int) (A E : Int) (h0 : 0 ≤ A) (h1 : A ≤ l.length) (k : Nat) : 0 ≤ (cmN l A E k).2.1 ∧ (cmN l A E k).2.1 ≤ l.length := by
  have h := cmK_at l A E h0 h1
  exact tkc_at l _ _ h.1 h.2 k
theorem cmE_at (l : List Int) (A E : Int) (h0 : 0 ≤ A) (h1 : A ≤ l.length) : 0 ≤ (cmE l A E).2.1 ∧ (cmE l A E).2.1 ≤ l.length := by
  have h := cmN_at l A E h0 h1 15
  exact taE_at l _ _ h.1 h.2
theorem cmN_add (l : List Int) (A E : Int) (k j : Nat) : tkc l (cmN l A E k).2.1 (cmN l A E k).2.2 j = cmN l A E (k + 1 + j) := tkc_add l _ _ k j
theorem cmN_next (l : List Int) (A E : Int) (k : Nat) : tkI l (cmN l A E k).2.1 (cmN l A E k).2.2 = cmN l A E (k + 1) := rfl
theorem cmN_zero (l : List Int) (A E : Int) : tkI l (cmK l A E).2.1 (cmK l A E).2.2 = cmN l A E 0 := rfl
set_option maxRecDepth 100000 in
theorem sizeCmd' : (Try.prog.info? 32).map (·.size) = some 24 := by kernel_rfl
set_option maxRecDepth 100000 in
set_option maxHeartbeats 8000000 in
theorem rdcommand_any (p : Nat) (a : Option Addr) (n c : Nat) (l : List Int) (A E : Int) (w : World) (h : RdC w p (.slice a n c) A E) (hl : HoldsB w a n c l) (h0 : 0 ≤ A) (h1 : A ≤ n) (hne : ∀ b o, a = some ⟨b, o, none⟩ → 0 < n → b ≠ p) :
    Calls Try.prog 87 #[.pointer (some ⟨p, 0, none⟩)] w fun e w' => ∃ v, e = .returned (.agg #[.int .i64 (cmK l A E).1, .int .i64 (cmN l A E 0).1, .int .i64 (cmN l A E 1).1, .int .i64 (cmN l A E 2).1, .int .i64 (cmN l A E 3).1, .int .i64 (cmN l A E 4).1, .int .i64 (cmN l A E 5).1, .int .i64 (cmN l A E 6).1, .int .i64 (cmN l A E 7).1, .int .i64 (cmN l A E 8).1, .int .i64 (cmN l A E 9).1, .int .i64 (cmN l A E 10).1, .int .i64 (cmN l A E 11).1, .int .i64 (cmN l A E 12).1, .int .i64 (cmN l A E 13).1, .int .i64 (cmN l A E 14).1, .int .i64 (cmN l A E 15).1, .int .i64 (cmN l A E 16).1, .int .i64 (cmN l A E 17).1, .int .i64 (cmN l A E 18).1, .int .i64 (cmN l A E 19).1, .int .i64 (cmN l A E 20).1, v, .int .i64 (cmE l A E).1]) ∧ OwnN w.heap.size w' v (cmC l A E) (cmL l A E) ∧ RdC w' p (.slice a n c) (cmE l A E).2.1 (cmE l A E).2.2 ∧ RK p w w' := by
  have hlen := hl.1
  have HBB := hid hl.2.2.2.2.1
  have hnm := hl.2.1
  have hP := h.lt
  go_enter Try.func87, Try.ntmps87
  go_upto_region 1 with fail
  have B0 := (Below.refl w.heap.size w).alloc (Nat.le_refl _) (.cells #[.int .i64 0, .int .i64 0, .int .i64 0, .int .i64 0, .int .i64 0, .int .i64 0, .int .i64 0, .int .i64 0, .int .i64 0, .int .i64 0, .int .i64 0, .int .i64 0, .int .i64 0, .int .i64 0, .int .i64 0, .int .i64 0, .int .i64 0, .int .i64 0, .int .i64 0, .int .i64 0, .int .i64 0, .int .i64 0, .slice none 0 0, .int .i64 0] 32)
  have H0 := hid (h.below B0)
  have L0 := hid (hl.below B0)
  have K0 : Hid (RK p w (w.alloc (.cells #[.int .i64 0, .int .i64 0, .int .i64 0, .int .i64 0, .int .i64 0, .int .i64 0, .int .i64 0, .int .i64 0, .int .i64 0, .int .i64 0, .int .i64 0, .int .i64 0, .int .i64 0, .int .i64 0, .int .i64 0, .int .i64 0, .int .i64 0, .int .i64 0, .int .i64 0, .int .i64 0, .int .i64 0, .int .i64 0, .slice none 0 0, .int .i64 0] 32))) := WK.of_below B0
  have BX := hid (Blk.alloc w #[.int .i64 0, .int .i64 0, .int .i64 0, .int .i64 0, .int .i64 0, .int .i64 0, .int .i64 0, .int .i64 0, .int .i64 0, .int .i64 0, .int .i64 0, .int .i64 0, .int .i64 0, .int .i64 0, .int .i64 0, .int .i64 0, .int .i64 0, .int .i64 0, .int .i64 0, .int .i64 0, .int .i64 0, .int .i64 0, .slice none 0 0, .int .i64 0] (32))
  have hQ : w.heap.size ≠ p := by omega
  clear h hl B0
  generalize (w.alloc (.cells #[.int .i64 0, .int .i64 0, .int .i64 0, .int .i64 0, .int .i64 0, .int .i64 0, .int .i64 0, .int .i64 0, .int .i64 0, .int .i64 0, .int .i64 0, .int .i64 0, .int .i64 0, .int .i64 0, .int .i64 0, .int .i64 0, .int .i64 0, .int .i64 0, .int .i64 0, .int .i64 0, .int .i64 0, .int .i64 0, .slice none 0 0, .int .i64 0] 32)) = W0 at *
  generalize hq : w.heap.size = QB at *
  have KT := hid (cmK_at l A E h0 (by omega))
  have KB := hid (cmK_bd l A E HBB.out)
  have AT := hid (cmN_at l A E h0 (by omega))
  have C0 : Hid (Calls Try.prog 109 #[.pointer (some ⟨p, 0, none⟩), .int .u64 9223372036854775807, .int .i64 4] W0 fun e w' => e = .returned (.int .u64 (cmK l A E).1) ∧ RdC w' p (.slice a n c) ((cmK l A E).2.1) ((cmK l A E).2.2) ∧ RK p W0 w') := by
    exact upto_any p a n c l A E 9223372036854775807 4 W0 H0.out L0.out ⟨by omega, by omega⟩ (by omega) hne
  go_wp2_with fail
  with_reducible refine C0.out.mono ?_
  rintro e W1 ⟨rfl, r, k⟩
  have H1 := hid r
  have L1 := hid (k.holds L0.out hne)
  replace BX := hid (BX.out.rk k hQ)
  have K1 := hid (K0.out.trans k)
  clear C0 r k H0 L0 K0
  generalize hk : (cmK l A E).1 = kd at *
  have XK := hid hk
  clear hk
  obtain ⟨kd0, kd1⟩ := KB.out
  have C1 : Hid (Calls Try.prog 86 #[.pointer (some ⟨p, 0, none⟩)] W1 fun e w' => e = .returned (.int .i64 (cmN l A E 0).1) ∧ RdC w' p (.slice a n c) ((cmN l A E 0).2.1) ((cmN l A E 0).2.2) ∧ RK p W1 w') := by
    exact rint_any p a n c l (cmK l A E).2.1 (cmK l A E).2.2 W1 H1.out L1.out ⟨by have := KT.out; omega, by have := KT.out; omega⟩ hne
  go_wp2_with fail
  with_reducible refine C1.out.mono ?_
  rintro e W2 ⟨rfl, r, k⟩
  have H2 := hid r
  have L2 := hid (k.holds L1.out hne)
  replace BX := hid (BX.out.rk k hQ)
  have K2 := hid (K1.out.trans k)
  clear C1 r k H1 L1 K1
  have C2 : Hid (Calls Try.prog 86 #[.pointer (some ⟨p, 0, none⟩)] W2 fun e w' => e = .returned (.int .i64 (cmN l A E 1).1) ∧ RdC w' p (.slice a n c) ((cmN l A E 1).2.1) ((cmN l A E 1).2.2) ∧ RK p W2 w') := by
    exact rint_any p a n c l (cmN l A E 0).2.1 (cmN l A E 0).2.2 W2 H2.out L2.out ⟨by have := AT.out 0; omega, by have := AT.out 0; omega⟩ hne
  go_wp2_with fail
  with_reducible refine C2.out.mono ?_
  rintro e W3 ⟨rfl, r, k⟩
  have H3 := hid r
  have L3 := hid (k.holds L2.out hne)
  replace BX := hid (BX.out.rk k hQ)
  have K3 := hid (K2.out.trans k)
  clear C2 r k H2 L2 K2
  have C3 : Hid (Calls Try.prog 86 #[.pointer (some ⟨p, 0, none⟩)] W3 fun e w' => e = .returned (.int .i64 (cmN l A E 2).1) ∧ RdC w' p (.slice a n c) ((cmN l A E 2).2.1) ((cmN l A E 2).2.2) ∧ RK p W3 w') := by
    exact rint_any p a n c l (cmN l A E 1).2.1 (cmN l A E 1).2.2 W3 H3.out L3.out ⟨by have := AT.out 1; omega, by have := AT.out 1; omega⟩ hne
  go_wp2_with fail
  with_reducible refine C3.out.mono ?_
  rintro e W4 ⟨rfl, r, k⟩
  have H4 := hid r
  have L4 := hid (k.holds L3.out hne)
  replace BX := hid (BX.out.rk k hQ)
  have K4 := hid (K3.out.trans k)
  clear C3 r k H3 L3 K3
  have C4 : Hid (Calls Try.prog 85 #[.pointer (some ⟨p, 0, none⟩)] W4 fun e w' => e = .returned (.int .i64 (cmN l A E 3).1) ∧ RdC w' p (.slice a n c) ((cmN l A E 3).2.1) ((cmN l A E 3).2.2) ∧ RK p W4 w') := by
    exact rint64_any p a n c l (cmN l A E 2).2.1 (cmN l A E 2).2.2 W4 H4.out L4.out ⟨by have := AT.out 2; omega, by have := AT.out 2; omega⟩ hne
  go_wp2_with fail
  with_reducible refine C4.out.mono ?_
  rintro e W5 ⟨rfl, r, k⟩
  have H5 := hid r
  have L5 := hid (k.holds L4.out hne)
  replace BX := hid (BX.out.rk k hQ)
  have K5 := hid (K4.out.trans k)
  clear C4 r k H4 L4 K4
  have C5 : Hid (Calls Try.prog 95 #[.pointer (some ⟨p, 0, none⟩)] W5 fun e w' => e = .returned (.agg #[.int .i64 (cmN l A E 4).1, .int .i64 (cmN l A E 5).1, .int .i64 (cmN l A E 6).1, .int .i64 (cmN l A E 7).1, .int .i64 (cmN l A E 8).1, .int .i64 (cmN l A E 9).1, .int .i64 (cmN l A E 10).1]) ∧ RdC w' p (.slice a n c) ((cmN l A E 10).2.1) ((cmN l A E 10).2.2) ∧ RK p W5 w') := by
    have z := rdqueue_any p a n c l (cmN l A E 3).2.1 (cmN l A E 3).2.2 W5 H5.out L5.out (by have := AT.out 3; omega) (by have := AT.out 3; omega) hne
    simp only [cmN_add, Nat.reduceAdd] at z
    exact z
  go_wp2_with fail
  with_reducible refine C5.out.mono ?_
  rintro e W6 ⟨rfl, r, k⟩
  have H6 := hid r
  have L6 := hid (k.holds L5.out hne)
  replace BX := hid (BX.out.rk k hQ)
  have K6 := hid (K5.out.trans k)
  clear C5 r k H5 L5 K5
  have C6 : Hid (Calls Try.prog 97 #[.pointer (some ⟨p, 0, none⟩)] W6 fun e w' => e = .returned (.agg #[.int .i64 (cmN l A E 11).1, .int .i64 (cmN l A E 12).1, .int .i64 (cmN l A E 13).1, .int .i64 (cmN l A E 14).1, .int .i64 (cmN l A E 15).1]) ∧ RdC w' p (.slice a n c) ((cmN l A E 15).2.1) ((cmN l A E 15).2.2) ∧ RK p W6 w') := by
    have z := rdnode_any p a n c l (cmN l A E 10).2.1 (cmN l A E 10).2.2 W6 H6.out L6.out (by have := AT.out 10; omega) (by have := AT.out 10; omega) hne
    simp only [cmN_add, Nat.reduceAdd] at z
    exact z
  go_wp2_with fail
  with_reducible refine C6.out.mono ?_
  rintro e W7 ⟨rfl, r, k⟩
  have H7 := hid r
  have L7 := hid (k.holds L6.out hne)
  replace BX := hid (BX.out.rk k hQ)
  have K7 := hid (K6.out.trans k)
  clear C6 r k H6 L6 K6
  have C7 : Hid (Calls Try.prog 99 #[.pointer (some ⟨p, 0, none⟩)] W7 fun e w' => ∃ v, e = .returned (.agg #[.int .i64 (cmN l A E 16).1, .int .i64 (cmN l A E 17).1, .int .i64 (cmN l A E 18).1, .int .i64 (cmN l A E 19).1, .int .i64 (cmN l A E 20).1, v, .int .i64 (cmE l A E).1]) ∧ OwnN W7.heap.size w' v (cmC l A E) (cmL l A E) ∧ RdC w' p (.slice a n c) ((cmE l A E).2.1) ((cmE l A E).2.2) ∧ RK p W7 w') := by
    have z := rdtask_any p a n c l (cmN l A E 15).2.1 (cmN l A E 15).2.2 W7 H7.out L7.out (by have := AT.out 15; omega) (by have := AT.out 15; omega) hne
    simp only [cmN_add, Nat.reduceAdd] at z
    refine z.mono ?_
    rintro e w' ⟨v, h1, h2, h3, h4⟩
    exact ⟨v, h1, h2, h3, h4⟩
  go_wp2_with fail
  with_reducible refine C7.out.mono ?_
  rintro e W8 ⟨v, rfl, ow, r, k⟩
  have H8 := hid r
  have L8 := hid (k.holds L7.out hne)
  have OW := hid (ow.weaken (b' := QB + 1) (by have := BX.out.lt; omega))
  clear ow
  replace BX := hid (BX.out.rk k hQ)
  have K8 := hid (K7.out.trans k)
  clear C7 r k H7 L7 K7
  obtain ⟨va, vc, rfl⟩ := OW.out.form
  generalize hx0 : (cmK l A E).1 = x0 at *
  have X0 := hid hx0
  clear hx0
  generalize hx1 : (cmN l A E 0).1 = x1 at *
  have X1 := hid hx1
  clear hx1
  generalize hx2 : (cmN l A E 1).1 = x2 at *
  have X2 := hid hx2
  clear hx2
  generalize hx3 : (cmN l A E 2).1 = x3 at *
  have X3 := hid hx3
  clear hx3
  generalize hx4 : (cmN l A E 3).1 = x4 at *
  have X4 := hid hx4
  clear hx4
  generalize hx5 : (cmN l A E 4).1 = x5 at *
  have X5 := hid hx5
  clear hx5
  generalize hx6 : (cmN l A E 5).1 = x6 at *
  have X6 := hid hx6
  clear hx6
  generalize hx7 : (cmN l A E 6).1 = x7 at *
  have X7 := hid hx7
  clear hx7
  generalize hx8 : (cmN l A E 7).1 = x8 at *
  have X8 := hid hx8
  clear hx8
  generalize hx9 : (cmN l A E 8).1 = x9 at *
  have X9 := hid hx9
  clear hx9
  generalize hx10 : (cmN l A E 9).1 = x10 at *
  have X10 := hid hx10
  clear hx10
  generalize hx11 : (cmN l A E 10).1 = x11 at *
  have X11 := hid hx11
  clear hx11
  generalize hx12 : (cmN l A E 11).1 = x12 at *
  have X12 := hid hx12
  clear hx12
  generalize hx13 : (cmN l A E 12).1 = x13 at *
  have X13 := hid hx13
  clear hx13
  generalize hx14 : (cmN l A E 13).1 = x14 at *
  have X14 := hid hx14
  clear hx14
  generalize hx15 : (cmN l A E 14).1 = x15 at *
  have X15 := hid hx15
  clear hx15
  generalize hx16 : (cmN l A E 15).1 = x16 at *
  have X16 := hid hx16
  clear hx16
  generalize hx17 : (cmN l A E 16).1 = x17 at *
  have X17 := hid hx17
  clear hx17
  generalize hx18 : (cmN l A E 17).1 = x18 at *
  have X18 := hid hx18
  clear hx18
  generalize hx19 : (cmN l A E 18).1 = x19 at *
  have X19 := hid hx19
  clear hx19
  generalize hx20 : (cmN l A E 19).1 = x20 at *
  have X20 := hid hx20
  clear hx20
  generalize hx21 : (cmN l A E 20).1 = x21 at *
  have X21 := hid hx21
  clear hx21
  generalize hx23 : (cmE l A E).1 = x23 at *
  have X23 := hid hx23
  clear hx23
  have BH := BX.out
  unfold Blk at BH
  go_wp2_with (first | refine wpList_built rfl 32 _ rfl #[.int .i64 x0, .int .i64 x1, .int .i64 x2, .int .i64 x3, .int .i64 x4, .int .i64 x5, .int .i64 x6, .int .i64 x7, .int .i64 x8, .int .i64 x9, .int .i64 x10, .int .i64 x11, .int .i64 x12, .int .i64 x13, .int .i64 x14, .int .i64 x15, .int .i64 x16, .int .i64 x17, .int .i64 x18, .int .i64 x19, .int .i64 x20, .int .i64 x21, .slice va (cmC l A E) vc, .int .i64 x23] (by kernel_rfl) ?_ | refine wpList_store_row rfl 32 (.tmp 2) (.tmp 20) rfl QB #[.int .i64 x0, .int .i64 x1, .int .i64 x2, .int .i64 x3, .int .i64 x4, .int .i64 x5, .int .i64 x6, .int .i64 x7, .int .i64 x8, .int .i64 x9, .int .i64 x10, .int .i64 x11, .int .i64 x12, .int .i64 x13, .int .i64 x14, .int .i64 x15, .int .i64 x16, .int .i64 x17, .int .i64 x18, .int .i64 x19, .int .i64 x20, .int .i64 x21, .slice va (cmC l A E) vc, .int .i64 x23] rfl rfl 32 _ BH sizeCmd' rfl (by simp [Value.oneCell']) ?_)
  clear BH
  refine bodyPost_ret (results_cell rfl rfl ((BX.out.row #[.int .i64 x0, .int .i64 x1, .int .i64 x2, .int .i64 x3, .int .i64 x4, .int .i64 x5, .int .i64 x6, .int .i64 x7, .int .i64 x8, .int .i64 x9, .int .i64 x10, .int .i64 x11, .int .i64 x12, .int .i64 x13, .int .i64 x14, .int .i64 x15, .int .i64 x16, .int .i64 x17, .int .i64 x18, .int .i64 x19, .int .i64 x20, .int .i64 x21, .slice va (cmC l A E) vc, .int .i64 x23]).loadVar Try.underlying32 rfl sizeCmd')) rfl ?_
  refine ⟨_, by rw [X0.out, X1.out, X2.out, X3.out, X4.out, X5.out, X6.out, X7.out, X8.out, X9.out, X10.out, X11.out, X12.out, X13.out, X14.out, X15.out, X16.out, X17.out, X18.out, X19.out, X20.out, X21.out, X23.out], (OW.out.row (by omega) _).weaken (by omega), H8.out.same (setRow_other _ _ _ _ (fun e => hQ e.symm)), K8.out.row _ _ (by omega)⟩
end Go.Proofs.Ytkjglpgjflkmbaa
