/-
  An entry that the document reads, told by the program's words: plain mathematics.
  Contracts of furlongref10: an entry that is read.
-/
import Derived.Test.YthkbddnkcljjpaaMFI
namespace Go.Proofs.Ythkbddnkcljjpaa
open Go.RowKit Go.Deep Go.Maps
set_option linter.unusedVariables false
set_option linter.unusedSimpArgs false
theorem rdQ_cm (l : List Int) (P F : Int) : rdQ l (cmN l P F 3).2.1 (cmN l P F 3).2.2 = (⟨(cmN l P F 4).1, (cmN l P F 5).1, (cmN l P F 6).1, (cmN l P F 7).1, (cmN l P F 8).1, (cmN l P F 9).1, (cmN l P F 10).1⟩, (cmN l P F 10).2) := by
  unfold rdQ; simp only [cmN_add, Nat.reduceAdd]
theorem rdN_cm (l : List Int) (P F : Int) : rdN l (cmN l P F 10).2.1 (cmN l P F 10).2.2 = (⟨(cmN l P F 11).1, (cmN l P F 12).1, (cmN l P F 13).1, (cmN l P F 14).1, (cmN l P F 15).1⟩, (cmN l P F 15).2) := by
  unfold rdN; simp only [cmN_add, Nat.reduceAdd]
theorem rdT_cm (l : List Int) (P F : Int) : rdT l (cmN l P F 15).2.1 (cmN l P F 15).2.2 = (⟨(cmN l P F 16).1, (cmN l P F 17).1, (cmN l P F 18).1, (cmN l P F 19).1, (cmN l P F 20).1, none, cmC l P F, 0, (cmE l P F).1, cmL l P F⟩, (cmE l P F).2) := by
  unfold rdT; simp only [cmN_add, Nat.reduceAdd]; rfl
theorem cm_ls (l : List Int) (P F : Int) (k : Nat) : cmN l P F k = (lsV (tkI l) (cmK l P F).2.1 (cmK l P F).2.2 k, lsS (tkI l) (cmK l P F).2.1 (cmK l P F).2.2 (k + 1)) := tkc_ls l _ _ k
theorem enO_of (l : List Int) (base : Nat) (W : World) (y : T7) (h : TaSame (rdT l (enN l 0 0 15).2.1 (enN l 0 0 15).2.2).1 y) (o : OwnN base W (.slice y.sa y.sl y.sc) y.sl y.tk) : EnO l 0 0 base W #[.int .i64 (tkc l 0 0 0).1, .int .i64 (tkc l 0 0 1).1, .int .i64 (tkc l 0 0 2).1, .int .i64 (enK l 0 0), .int .i64 (enN l 0 0 0).1, .int .i64 (enN l 0 0 1).1, .int .i64 (enN l 0 0 2).1, .int .i64 (enN l 0 0 3).1, .int .i64 (enN l 0 0 4).1, .int .i64 (enN l 0 0 5).1, .int .i64 (enN l 0 0 6).1, .int .i64 (enN l 0 0 7).1, .int .i64 (enN l 0 0 8).1, .int .i64 (enN l 0 0 9).1, .int .i64 (enN l 0 0 10).1, .int .i64 (enN l 0 0 11).1, .int .i64 (enN l 0 0 12).1, .int .i64 (enN l 0 0 13).1, .int .i64 (enN l 0 0 14).1, .int .i64 (enN l 0 0 15).1, .int .i64 y.t1, .int .i64 y.t2, .int .i64 y.c, .int .i64 y.m, .int .i64 y.wk, .slice y.sa y.sl y.sc, .int .i64 y.st] := by
  unfold enN at h
  rw [rdT_cm] at h
  obtain ⟨y1, y2, y3, y4, y5, ya, yl, yc, ys, yk⟩ := y
  obtain ⟨h1, h2, h3, h4, h5, h6, h7, h8⟩ := h
  simp only at h1 h2 h3 h4 h5 h6 h7 h8 o ⊢
  subst h1 h2 h3 h4 h5 h6 h7 h8
  exact ⟨.slice ya _ yc, rfl, o⟩
theorem enE_of (l : List Int) : (rdT l (enN l 0 0 15).2.1 (enN l 0 0 15).2.2).2 = (enE l 0 0).2 := by
  unfold enN enE
  rw [rdT_cm]
end Go.Proofs.Ythkbddnkcljjpaa

namespace Go.Proofs.Ythkbddnkcljjpaa
open Go.RowKit Go.Deep Go.Maps
set_option linter.unusedVariables false
set_option linter.unusedSimpArgs false
set_option maxRecDepth 100000 in
set_option maxHeartbeats 8000000 in
theorem ddocentry_any (a : Option Addr) (n c : Nat) (l : List Int) (w : World) (hl : HoldsB w a n c l) :
    Calls Try.prog 23 #[.slice a n c] w fun e w' => ∃ cs, e = .returned (.tuple #[.agg cs, .int .i64 (endT n (enE l 0 0).2.1 (enE l 0 0).2.2).1, .int .i64 (endT n (enE l 0 0).2.1 (enE l 0 0).2.2).2]) ∧ ((endT n (enE l 0 0).2.1 (enE l 0 0).2.2).2 ≠ 0 → cs = #[.int .i64 0, .int .i64 0, .int .i64 0, .int .i64 0, .int .i64 0, .int .i64 0, .int .i64 0, .int .i64 0, .int .i64 0, .int .i64 0, .int .i64 0, .int .i64 0, .int .i64 0, .int .i64 0, .int .i64 0, .int .i64 0, .int .i64 0, .int .i64 0, .int .i64 0, .int .i64 0, .int .i64 0, .int .i64 0, .int .i64 0, .int .i64 0, .int .i64 0, .slice none 0 0, .int .i64 0]) ∧ ((endT n (enE l 0 0).2.1 (enE l 0 0).2.2).2 = 0 → EnO l 0 0 w.heap.size w' cs) ∧ Below w.heap.size w w' := by
  have HL := hid hl
  have hlen := hl.1
  have hnm := hl.2.1
  clear hl
  have a1 := tkc_at l 0 0 (by omega) (by omega) 2
  have aK := cmK_at l (tkc l 0 0 2).2.1 (tkc l 0 0 2).2.2 a1.1 a1.2
  have a103 := cmN_at l (tkc l 0 0 2).2.1 (tkc l 0 0 2).2.2 a1.1 a1.2 3
  have a110 := cmN_at l (tkc l 0 0 2).2.1 (tkc l 0 0 2).2.2 a1.1 a1.2 10
  have a115 := cmN_at l (tkc l 0 0 2).2.1 (tkc l 0 0 2).2.2 a1.1 a1.2 15
  have U1 := hid (fun W (H : HoldsB W a n c l) => dnums3_any a n c l 0 0 W H (by omega) (by omega))
  have U2 := hid (fun W (H : HoldsB W a n c l) => dupto_any a n c l (tkc l 0 0 2).2.1 (tkc l 0 0 2).2.2 9223372036854775807 W H ⟨by omega, by omega⟩ (by omega) (by omega))
  have U3 := hid (fun W (H : HoldsB W a n c l) => dnums4_any a n c l (cmK l (tkc l 0 0 2).2.1 (tkc l 0 0 2).2.2).2.1 (cmK l (tkc l 0 0 2).2.1 (tkc l 0 0 2).2.2).2.2 W H aK.1 (by omega))
  have U4 := hid (fun W (H : HoldsB W a n c l) => daqueue_any a n c l (cmN l (tkc l 0 0 2).2.1 (tkc l 0 0 2).2.2 3).2.1 (cmN l (tkc l 0 0 2).2.1 (tkc l 0 0 2).2.2 3).2.2 W H a103.1 (by omega))
  have U5 := hid (fun W (H : HoldsB W a n c l) => danode_any a n c l (cmN l (tkc l 0 0 2).2.1 (tkc l 0 0 2).2.2 10).2.1 (cmN l (tkc l 0 0 2).2.1 (tkc l 0 0 2).2.2 10).2.2 W H a110.1 (by omega))
  have U6 := hid (fun W (H : HoldsB W a n c l) => datask_any a n c l (cmN l (tkc l 0 0 2).2.1 (tkc l 0 0 2).2.2 15).2.1 (cmN l (tkc l 0 0 2).2.1 (tkc l 0 0 2).2.2 15).2.2 W H a115.1 (by omega))
  rw [show upT l (tkc l 0 0 2).2.1 (tkc l 0 0 2).2.2 9223372036854775807 4 = cmK l (tkc l 0 0 2).2.1 (tkc l 0 0 2).2.2 from rfl] at U2
  rw [rdQ_cm] at U4
  rw [rdN_cm] at U5
  simp only [Q7.cs] at U4
  simp only [N5.cs] at U5
  rw [show lsV (tkI l) 0 0 0 = (tkc l 0 0 0).1 by rw [tkc_ls]] at U1
  rw [show lsV (tkI l) 0 0 1 = (tkc l 0 0 1).1 by rw [tkc_ls]] at U1
  rw [show lsV (tkI l) 0 0 2 = (tkc l 0 0 2).1 by rw [tkc_ls]] at U1
  rw [show lsS (tkI l) 0 0 3 = (tkc l 0 0 2).2 by rw [tkc_ls]] at U1
  rw [show lsV (tkI l) (cmK l (tkc l 0 0 2).2.1 (tkc l 0 0 2).2.2).2.1 (cmK l (tkc l 0 0 2).2.1 (tkc l 0 0 2).2.2).2.2 0 = (cmN l (tkc l 0 0 2).2.1 (tkc l 0 0 2).2.2 0).1 by rw [cm_ls]] at U3
  rw [show lsV (tkI l) (cmK l (tkc l 0 0 2).2.1 (tkc l 0 0 2).2.2).2.1 (cmK l (tkc l 0 0 2).2.1 (tkc l 0 0 2).2.2).2.2 1 = (cmN l (tkc l 0 0 2).2.1 (tkc l 0 0 2).2.2 1).1 by rw [cm_ls]] at U3
  rw [show lsV (tkI l) (cmK l (tkc l 0 0 2).2.1 (tkc l 0 0 2).2.2).2.1 (cmK l (tkc l 0 0 2).2.1 (tkc l 0 0 2).2.2).2.2 2 = (cmN l (tkc l 0 0 2).2.1 (tkc l 0 0 2).2.2 2).1 by rw [cm_ls]] at U3
  rw [show lsV (tkI l) (cmK l (tkc l 0 0 2).2.1 (tkc l 0 0 2).2.2).2.1 (cmK l (tkc l 0 0 2).2.1 (tkc l 0 0 2).2.2).2.2 3 = (cmN l (tkc l 0 0 2).2.1 (tkc l 0 0 2).2.2 3).1 by rw [cm_ls]] at U3
  rw [show lsS (tkI l) (cmK l (tkc l 0 0 2).2.1 (tkc l 0 0 2).2.2).2.1 (cmK l (tkc l 0 0 2).2.1 (tkc l 0 0 2).2.2).2.2 4 = (cmN l (tkc l 0 0 2).2.1 (tkc l 0 0 2).2.2 3).2 by rw [cm_ls]] at U3
  have FIN : Hid (∀ (base : Nat) (W : World) (y : T7), TaSame (rdT l (cmN l (tkc l 0 0 2).2.1 (tkc l 0 0 2).2.2 15).2.1 (cmN l (tkc l 0 0 2).2.1 (tkc l 0 0 2).2.2 15).2.2).1 y → OwnN base W (.slice y.sa y.sl y.sc) y.sl y.tk → EnO l 0 0 base W #[.int .i64 (tkc l 0 0 0).1, .int .i64 (tkc l 0 0 1).1, .int .i64 (tkc l 0 0 2).1, .int .i64 (cmK l (tkc l 0 0 2).2.1 (tkc l 0 0 2).2.2).1, .int .i64 (cmN l (tkc l 0 0 2).2.1 (tkc l 0 0 2).2.2 0).1, .int .i64 (cmN l (tkc l 0 0 2).2.1 (tkc l 0 0 2).2.2 1).1, .int .i64 (cmN l (tkc l 0 0 2).2.1 (tkc l 0 0 2).2.2 2).1, .int .i64 (cmN l (tkc l 0 0 2).2.1 (tkc l 0 0 2).2.2 3).1, .int .i64 (cmN l (tkc l 0 0 2).2.1 (tkc l 0 0 2).2.2 4).1, .int .i64 (cmN l (tkc l 0 0 2).2.1 (tkc l 0 0 2).2.2 5).1, .int .i64 (cmN l (tkc l 0 0 2).2.1 (tkc l 0 0 2).2.2 6).1, .int .i64 (cmN l (tkc l 0 0 2).2.1 (tkc l 0 0 2).2.2 7).1, .int .i64 (cmN l (tkc l 0 0 2).2.1 (tkc l 0 0 2).2.2 8).1, .int .i64 (cmN l (tkc l 0 0 2).2.1 (tkc l 0 0 2).2.2 9).1, .int .i64 (cmN l (tkc l 0 0 2).2.1 (tkc l 0 0 2).2.2 10).1, .int .i64 (cmN l (tkc l 0 0 2).2.1 (tkc l 0 0 2).2.2 11).1, .int .i64 (cmN l (tkc l 0 0 2).2.1 (tkc l 0 0 2).2.2 12).1, .int .i64 (cmN l (tkc l 0 0 2).2.1 (tkc l 0 0 2).2.2 13).1, .int .i64 (cmN l (tkc l 0 0 2).2.1 (tkc l 0 0 2).2.2 14).1, .int .i64 (cmN l (tkc l 0 0 2).2.1 (tkc l 0 0 2).2.2 15).1, .int .i64 y.t1, .int .i64 y.t2, .int .i64 y.c, .int .i64 y.m, .int .i64 y.wk, .slice y.sa y.sl y.sc, .int .i64 y.st]) := fun base W y h o => enO_of l base W y h o
  have EO : Hid ((rdT l (cmN l (tkc l 0 0 2).2.1 (tkc l 0 0 2).2.2 15).2.1 (cmN l (tkc l 0 0 2).2.1 (tkc l 0 0 2).2.2 15).2.2).2 = (enE l 0 0).2) := enE_of l
  rw [← EO.out]
  clear a1 aK a103 a110 a115 EO
  generalize EnO l 0 0 = EN0 at *
  generalize rdT l (cmN l (tkc l 0 0 2).2.1 (tkc l 0 0 2).2.2 15).2.1 (cmN l (tkc l 0 0 2).2.1 (tkc l 0 0 2).2.2 15).2.2 = TT at *
  generalize (cmN l (tkc l 0 0 2).2.1 (tkc l 0 0 2).2.2 0).1 = m0 at *
  generalize (cmN l (tkc l 0 0 2).2.1 (tkc l 0 0 2).2.2 1).1 = m1 at *
  generalize (cmN l (tkc l 0 0 2).2.1 (tkc l 0 0 2).2.2 2).1 = m2 at *
  generalize (cmN l (tkc l 0 0 2).2.1 (tkc l 0 0 2).2.2 3).1 = m3 at *
  generalize (cmN l (tkc l 0 0 2).2.1 (tkc l 0 0 2).2.2 4).1 = m4 at *
  generalize (cmN l (tkc l 0 0 2).2.1 (tkc l 0 0 2).2.2 5).1 = m5 at *
  generalize (cmN l (tkc l 0 0 2).2.1 (tkc l 0 0 2).2.2 6).1 = m6 at *
  generalize (cmN l (tkc l 0 0 2).2.1 (tkc l 0 0 2).2.2 7).1 = m7 at *
  generalize (cmN l (tkc l 0 0 2).2.1 (tkc l 0 0 2).2.2 8).1 = m8 at *
  generalize (cmN l (tkc l 0 0 2).2.1 (tkc l 0 0 2).2.2 9).1 = m9 at *
  generalize (cmN l (tkc l 0 0 2).2.1 (tkc l 0 0 2).2.2 10).1 = m10 at *
  generalize (cmN l (tkc l 0 0 2).2.1 (tkc l 0 0 2).2.2 11).1 = m11 at *
  generalize (cmN l (tkc l 0 0 2).2.1 (tkc l 0 0 2).2.2 12).1 = m12 at *
  generalize (cmN l (tkc l 0 0 2).2.1 (tkc l 0 0 2).2.2 13).1 = m13 at *
  generalize (cmN l (tkc l 0 0 2).2.1 (tkc l 0 0 2).2.2 14).1 = m14 at *
  generalize (cmN l (tkc l 0 0 2).2.1 (tkc l 0 0 2).2.2 15).1 = m15 at *
  generalize (cmN l (tkc l 0 0 2).2.1 (tkc l 0 0 2).2.2 15).2 = S5 at *
  generalize (cmN l (tkc l 0 0 2).2.1 (tkc l 0 0 2).2.2 10).2 = S4 at *
  generalize (cmN l (tkc l 0 0 2).2.1 (tkc l 0 0 2).2.2 3).2 = S3 at *
  generalize (cmK l (tkc l 0 0 2).2.1 (tkc l 0 0 2).2.2) = KK at *
  generalize (tkc l 0 0 0).1 = x0 at *
  generalize (tkc l 0 0 1).1 = x1 at *
  generalize (tkc l 0 0 2).1 = x2 at *
  generalize (tkc l 0 0 2).2 = S1 at *
  obtain ⟨P1, F1⟩ := S1
  obtain ⟨kd, P2, F2⟩ := KK
  obtain ⟨P3, F3⟩ := S3
  obtain ⟨P4, F4⟩ := S4
  obtain ⟨P5, F5⟩ := S5
  obtain ⟨tt, P6, F6⟩ := TT
  simp only at U1 U2 U3 U4 U5 U6 FIN
  go_enter Try.func23, Try.ntmps23
  go_upto_region 1 with fail
  have B := hid ((Below.refl w.heap.size w).alloc (Nat.le_refl _) (.cells #[.int .i64 0, .int .i64 0, .int .i64 0, .int .i64 0, .int .i64 0, .int .i64 0, .int .i64 0, .int .i64 0, .int .i64 0, .int .i64 0, .int .i64 0, .int .i64 0, .int .i64 0, .int .i64 0, .int .i64 0, .int .i64 0, .int .i64 0, .int .i64 0, .int .i64 0, .int .i64 0, .int .i64 0, .int .i64 0, .int .i64 0, .int .i64 0, .int .i64 0, .slice none 0 0, .int .i64 0] 34))
  have Y := hid (Blk.alloc w #[.int .i64 0, .int .i64 0, .int .i64 0, .int .i64 0, .int .i64 0, .int .i64 0, .int .i64 0, .int .i64 0, .int .i64 0, .int .i64 0, .int .i64 0, .int .i64 0, .int .i64 0, .int .i64 0, .int .i64 0, .int .i64 0, .int .i64 0, .int .i64 0, .int .i64 0, .int .i64 0, .int .i64 0, .int .i64 0, .int .i64 0, .int .i64 0, .int .i64 0, .slice none 0 0, .int .i64 0] (34))
  have s : Hid (w.heap.size + 1 ≤ (w.alloc (.cells #[.int .i64 0, .int .i64 0, .int .i64 0, .int .i64 0, .int .i64 0, .int .i64 0, .int .i64 0, .int .i64 0, .int .i64 0, .int .i64 0, .int .i64 0, .int .i64 0, .int .i64 0, .int .i64 0, .int .i64 0, .int .i64 0, .int .i64 0, .int .i64 0, .int .i64 0, .int .i64 0, .int .i64 0, .int .i64 0, .int .i64 0, .int .i64 0, .int .i64 0, .slice none 0 0, .int .i64 0] 34)).heap.size) := by unfold Hid; simp
  generalize (w.alloc (.cells #[.int .i64 0, .int .i64 0, .int .i64 0, .int .i64 0, .int .i64 0, .int .i64 0, .int .i64 0, .int .i64 0, .int .i64 0, .int .i64 0, .int .i64 0, .int .i64 0, .int .i64 0, .int .i64 0, .int .i64 0, .int .i64 0, .int .i64 0, .int .i64 0, .int .i64 0, .int .i64 0, .int .i64 0, .int .i64 0, .int .i64 0, .int .i64 0, .int .i64 0, .slice none 0 0, .int .i64 0] 34)) = W0 at *
  have CC := hid (U1.out W0 (HL.out.below B.out))
  go_wp2_with (refine wpList_built rfl 102 _ rfl #[.slice a n c, .int .i64 0, .int .i64 0] (by kernel_rfl) ?_)
  with_reducible refine CC.out.mono ?_
  rintro e w1 ⟨g, rfl, hg, hb, b1⟩
  have hg1 : w.heap.size + 1 ≤ g := by have := s.out; omega
  have hg2 := hb.lt
  have b2 := (Below.refl w1.heap.size w1).alloc (Nat.le_refl _) (.cells #[.slice a n c, .int .i64 P1, .int .i64 F1] 102)
  have X := hid (Blk.alloc w1 #[.slice a n c, .int .i64 P1, .int .i64 F1] (102))
  replace Y := hid ((Y.out.below b1).below b2)
  have G := hid (hb.below b2)
  replace B := hid ((B.out.trans (b1.mono B.out.size)).trans (b2.mono (B.out.trans (b1.mono B.out.size)).size))
  replace s : Hid (w1.heap.size + 1 ≤ (w1.alloc (.cells #[.slice a n c, .int .i64 P1, .int .i64 F1] 102)).heap.size) := by unfold Hid; simp
  clear CC b1 b2 hb hg U1
  go_upto_region 2 with (refine wpList_store_row rfl 102 (.tmp 5) (.tmp 15) rfl w1.heap.size #[.slice a n c, .int .i64 P1, .int .i64 F1] rfl rfl 102 _ (heap_alloc_new w1 _) sizeRead rfl (by simp [Value.oneCell']) ?_)
  try rw [alloc_row]
  generalize w1.alloc (.cells #[.slice a n c, .int .i64 P1, .int .i64 F1] 102) = W1 at *
  generalize w1.heap.size = Q5 at *
  have LD := X.out.loadAt Try.underlying102 rfl sizeRead
  have CC := hid (U2.out W1 (HL.out.below B.out))
  go_wp2_with (refine wpList_load_at 102 rfl (.tmp 5) rfl _ _ rfl _ LD ?_)
  with_reducible refine CC.out.mono ?_
  rintro e w2 ⟨rfl, b1⟩
  have hss := s.out
  have BX := X.out.below b1
  unfold Blk at BX
  replace X := hid ((X.out.below b1).row #[.slice a n c, .int .i64 P2, .int .i64 F2])
  replace Y := hid ((Y.out.below b1).other (q := Q5) (ds := #[.slice a n c, .int .i64 P2, .int .i64 F2]) (by omega))
  replace G := hid ((G.out.below b1).other (q := Q5) (ds := #[.slice a n c, .int .i64 P2, .int .i64 F2]) (by omega))
  replace B := hid (setRow_below (q := Q5) (cs := #[.slice a n c, .int .i64 P2, .int .i64 F2]) (B.out.trans (b1.mono B.out.size)) (by omega))
  replace s : Hid (Q5 + 1 ≤ (w2.setRow Q5 #[.slice a n c, .int .i64 P2, .int .i64 F2]).heap.size) := by unfold Hid; have := b1.size; simp; omega
  clear CC LD b1 hss U2
  go_upto_region 3 with (refine wpList_store_row rfl 102 (.tmp 5) (.tmp 23) rfl Q5 #[.slice a n c, .int .i64 P2, .int .i64 F2] rfl rfl 102 _ BX sizeRead rfl (by simp [Value.oneCell']) ?_)
  clear BX
  generalize w2.setRow Q5 #[.slice a n c, .int .i64 P2, .int .i64 F2] = W2 at *
  have LD := X.out.loadAt Try.underlying102 rfl sizeRead
  have CC := hid (U3.out W2 (HL.out.below B.out))
  go_wp2_with (refine wpList_load_at 102 rfl (.tmp 5) rfl _ _ rfl _ LD ?_)
  with_reducible refine CC.out.mono ?_
  rintro e w2 ⟨g', rfl, hg, hb, b1⟩
  have hg3 : Q5 + 1 ≤ g' := by have := s.out; omega
  have hss := s.out
  have BX := X.out.below b1
  unfold Blk at BX
  replace X := hid ((X.out.below b1).row #[.slice a n c, .int .i64 P3, .int .i64 F3])
  replace Y := hid ((Y.out.below b1).other (q := Q5) (ds := #[.slice a n c, .int .i64 P3, .int .i64 F3]) (by omega))
  replace G := hid ((G.out.below b1).other (q := Q5) (ds := #[.slice a n c, .int .i64 P3, .int .i64 F3]) (by omega))
  have G2 := hid (hb.other (q := Q5) (ds := #[.slice a n c, .int .i64 P3, .int .i64 F3]) (by omega))
  clear hb hg
  replace B := hid (setRow_below (q := Q5) (cs := #[.slice a n c, .int .i64 P3, .int .i64 F3]) (B.out.trans (b1.mono B.out.size)) (by omega))
  replace s : Hid (Q5 + 1 ≤ (w2.setRow Q5 #[.slice a n c, .int .i64 P3, .int .i64 F3]).heap.size) := by unfold Hid; have := b1.size; simp; omega
  clear CC LD b1 hss U3
  go_upto_region 4 with (refine wpList_store_row rfl 102 (.tmp 5) (.tmp 28) rfl Q5 #[.slice a n c, .int .i64 P3, .int .i64 F3] rfl rfl 102 _ BX sizeRead rfl (by simp [Value.oneCell']) ?_)
  clear BX
  generalize w2.setRow Q5 #[.slice a n c, .int .i64 P3, .int .i64 F3] = W3 at *
  have LD := X.out.loadAt Try.underlying102 rfl sizeRead
  have CC := hid (U4.out W3 (HL.out.below B.out))
  go_wp2_with (refine wpList_load_at 102 rfl (.tmp 5) rfl _ _ rfl _ LD ?_)
  with_reducible refine CC.out.mono ?_
  rintro e w2 ⟨rfl, b1⟩
  have hss := s.out
  have hs2 := b1.size
  have ba := (Below.refl w2.heap.size w2).alloc (Nat.le_refl _) (.cells #[.int .i64 0, .int .i64 0, .int .i64 0, .int .i64 0, .int .i64 0, .int .i64 0, .int .i64 0] 25)
  have BX := (X.out.below b1).below ba
  unfold Blk at BX
  have BV := (Blk.alloc w2 #[.int .i64 0, .int .i64 0, .int .i64 0, .int .i64 0, .int .i64 0, .int .i64 0, .int .i64 0] (25)).other (q := Q5) (ds := #[.slice a n c, .int .i64 P4, .int .i64 F4]) (show w2.heap.size ≠ Q5 by omega)
  unfold Blk at BV
  have hq4 : Q5 + 1 ≤ w2.heap.size := by omega
  replace X := hid ((((X.out.below b1).below ba).row #[.slice a n c, .int .i64 P4, .int .i64 F4]).other (q := w2.heap.size) (ds := #[.int .i64 m4, .int .i64 m5, .int .i64 m6, .int .i64 m7, .int .i64 m8, .int .i64 m9, .int .i64 m10]) (by omega))
  have hltY := Y.out.lt
  have hltG := G.out.lt
  have hltG2 := G2.out.lt
  replace Y := hid ((((Y.out.below b1).below ba).other (q := Q5) (ds := #[.slice a n c, .int .i64 P4, .int .i64 F4]) (by omega)).other (q := w2.heap.size) (ds := #[.int .i64 m4, .int .i64 m5, .int .i64 m6, .int .i64 m7, .int .i64 m8, .int .i64 m9, .int .i64 m10]) (by omega))
  replace G := hid ((((G.out.below b1).below ba).other (q := Q5) (ds := #[.slice a n c, .int .i64 P4, .int .i64 F4]) (by omega)).other (q := w2.heap.size) (ds := #[.int .i64 m4, .int .i64 m5, .int .i64 m6, .int .i64 m7, .int .i64 m8, .int .i64 m9, .int .i64 m10]) (by omega))
  replace G2 := hid ((((G2.out.below b1).below ba).other (q := Q5) (ds := #[.slice a n c, .int .i64 P4, .int .i64 F4]) (by omega)).other (q := w2.heap.size) (ds := #[.int .i64 m4, .int .i64 m5, .int .i64 m6, .int .i64 m7, .int .i64 m8, .int .i64 m9, .int .i64 m10]) (by omega))
  have HQ := hid (((Blk.alloc w2 #[.int .i64 0, .int .i64 0, .int .i64 0, .int .i64 0, .int .i64 0, .int .i64 0, .int .i64 0] (25)).other (q := Q5) (ds := #[.slice a n c, .int .i64 P4, .int .i64 F4]) (show w2.heap.size ≠ Q5 by omega)).row #[.int .i64 m4, .int .i64 m5, .int .i64 m6, .int .i64 m7, .int .i64 m8, .int .i64 m9, .int .i64 m10])
  replace B := hid (setRow_below (q := w2.heap.size) (cs := #[.int .i64 m4, .int .i64 m5, .int .i64 m6, .int .i64 m7, .int .i64 m8, .int .i64 m9, .int .i64 m10]) (setRow_below (q := Q5) (cs := #[.slice a n c, .int .i64 P4, .int .i64 F4]) ((B.out.trans (b1.mono B.out.size)).trans (ba.mono (B.out.trans (b1.mono B.out.size)).size)) (by omega)) (by omega))
  replace s : Hid (Q5 + 1 ≤ (((w2.alloc (.cells #[.int .i64 0, .int .i64 0, .int .i64 0, .int .i64 0, .int .i64 0, .int .i64 0, .int .i64 0] 25)).setRow Q5 #[.slice a n c, .int .i64 P4, .int .i64 F4]).setRow w2.heap.size #[.int .i64 m4, .int .i64 m5, .int .i64 m6, .int .i64 m7, .int .i64 m8, .int .i64 m9, .int .i64 m10]).heap.size) := by unfold Hid; simp; omega
  clear CC LD b1 hss hs2 ba U4 hltY hltG hltG2
  go_upto_region 5 with (first | refine wpList_store_row rfl 102 (.tmp 5) (.tmp 33) rfl Q5 #[.slice a n c, .int .i64 P4, .int .i64 F4] rfl rfl 102 _ BX sizeRead rfl (by simp [Value.oneCell']) ?_ | refine wpList_store_row rfl 25 (.tmp 9) (.tmp 34) rfl w2.heap.size #[.int .i64 m4, .int .i64 m5, .int .i64 m6, .int .i64 m7, .int .i64 m8, .int .i64 m9, .int .i64 m10] rfl rfl 25 _ BV sizeQue rfl (by simp [Value.oneCell']) ?_)
  clear BX BV
  generalize ((w2.alloc (.cells #[.int .i64 0, .int .i64 0, .int .i64 0, .int .i64 0, .int .i64 0, .int .i64 0, .int .i64 0] 25)).setRow Q5 #[.slice a n c, .int .i64 P4, .int .i64 F4]).setRow w2.heap.size #[.int .i64 m4, .int .i64 m5, .int .i64 m6, .int .i64 m7, .int .i64 m8, .int .i64 m9, .int .i64 m10] = W4 at *
  generalize w2.heap.size = Q9 at *
  have LD := X.out.loadAt Try.underlying102 rfl sizeRead
  have CC := hid (U5.out W4 (HL.out.below B.out))
  go_wp2_with (refine wpList_load_at 102 rfl (.tmp 5) rfl _ _ rfl _ LD ?_)
  with_reducible refine CC.out.mono ?_
  rintro e w2 ⟨rfl, b1⟩
  have hss := s.out
  have hs2 := b1.size
  have ba := (Below.refl w2.heap.size w2).alloc (Nat.le_refl _) (.cells #[.int .i64 0, .int .i64 0, .int .i64 0, .int .i64 0, .int .i64 0] 27)
  have BX := (X.out.below b1).below ba
  unfold Blk at BX
  have BV := (Blk.alloc w2 #[.int .i64 0, .int .i64 0, .int .i64 0, .int .i64 0, .int .i64 0] (27)).other (q := Q5) (ds := #[.slice a n c, .int .i64 P5, .int .i64 F5]) (show w2.heap.size ≠ Q5 by omega)
  unfold Blk at BV
  have hq5 : Q5 + 1 ≤ w2.heap.size := by omega
  replace X := hid ((((X.out.below b1).below ba).row #[.slice a n c, .int .i64 P5, .int .i64 F5]).other (q := w2.heap.size) (ds := #[.int .i64 m11, .int .i64 m12, .int .i64 m13, .int .i64 m14, .int .i64 m15]) (by omega))
  have hltY := Y.out.lt
  have hltG := G.out.lt
  have hltG2 := G2.out.lt
  have hltHQ := HQ.out.lt
  replace Y := hid ((((Y.out.below b1).below ba).other (q := Q5) (ds := #[.slice a n c, .int .i64 P5, .int .i64 F5]) (by omega)).other (q := w2.heap.size) (ds := #[.int .i64 m11, .int .i64 m12, .int .i64 m13, .int .i64 m14, .int .i64 m15]) (by omega))
  replace G := hid ((((G.out.below b1).below ba).other (q := Q5) (ds := #[.slice a n c, .int .i64 P5, .int .i64 F5]) (by omega)).other (q := w2.heap.size) (ds := #[.int .i64 m11, .int .i64 m12, .int .i64 m13, .int .i64 m14, .int .i64 m15]) (by omega))
  replace G2 := hid ((((G2.out.below b1).below ba).other (q := Q5) (ds := #[.slice a n c, .int .i64 P5, .int .i64 F5]) (by omega)).other (q := w2.heap.size) (ds := #[.int .i64 m11, .int .i64 m12, .int .i64 m13, .int .i64 m14, .int .i64 m15]) (by omega))
  replace HQ := hid ((((HQ.out.below b1).below ba).other (q := Q5) (ds := #[.slice a n c, .int .i64 P5, .int .i64 F5]) (by omega)).other (q := w2.heap.size) (ds := #[.int .i64 m11, .int .i64 m12, .int .i64 m13, .int .i64 m14, .int .i64 m15]) (by omega))
  have HN := hid (((Blk.alloc w2 #[.int .i64 0, .int .i64 0, .int .i64 0, .int .i64 0, .int .i64 0] (27)).other (q := Q5) (ds := #[.slice a n c, .int .i64 P5, .int .i64 F5]) (show w2.heap.size ≠ Q5 by omega)).row #[.int .i64 m11, .int .i64 m12, .int .i64 m13, .int .i64 m14, .int .i64 m15])
  replace B := hid (setRow_below (q := w2.heap.size) (cs := #[.int .i64 m11, .int .i64 m12, .int .i64 m13, .int .i64 m14, .int .i64 m15]) (setRow_below (q := Q5) (cs := #[.slice a n c, .int .i64 P5, .int .i64 F5]) ((B.out.trans (b1.mono B.out.size)).trans (ba.mono (B.out.trans (b1.mono B.out.size)).size)) (by omega)) (by omega))
  replace s : Hid (Q5 + 1 ≤ (((w2.alloc (.cells #[.int .i64 0, .int .i64 0, .int .i64 0, .int .i64 0, .int .i64 0] 27)).setRow Q5 #[.slice a n c, .int .i64 P5, .int .i64 F5]).setRow w2.heap.size #[.int .i64 m11, .int .i64 m12, .int .i64 m13, .int .i64 m14, .int .i64 m15]).heap.size) := by unfold Hid; simp; omega
  clear CC LD b1 hss hs2 ba U5 hltY hltG hltG2 hltHQ
  go_upto_region 6 with (first | refine wpList_store_row rfl 102 (.tmp 5) (.tmp 38) rfl Q5 #[.slice a n c, .int .i64 P5, .int .i64 F5] rfl rfl 102 _ BX sizeRead rfl (by simp [Value.oneCell']) ?_ | refine wpList_store_row rfl 27 (.tmp 10) (.tmp 39) rfl w2.heap.size #[.int .i64 m11, .int .i64 m12, .int .i64 m13, .int .i64 m14, .int .i64 m15] rfl rfl 27 _ BV sizeNod rfl (by simp [Value.oneCell']) ?_)
  clear BX BV
  generalize ((w2.alloc (.cells #[.int .i64 0, .int .i64 0, .int .i64 0, .int .i64 0, .int .i64 0] 27)).setRow Q5 #[.slice a n c, .int .i64 P5, .int .i64 F5]).setRow w2.heap.size #[.int .i64 m11, .int .i64 m12, .int .i64 m13, .int .i64 m14, .int .i64 m15] = W5 at *
  generalize w2.heap.size = Q10 at *
  have LD := X.out.loadAt Try.underlying102 rfl sizeRead
  have CC := hid (U6.out W5 (HL.out.below B.out))
  go_wp2_with (refine wpList_load_at 102 rfl (.tmp 5) rfl _ _ rfl _ LD ?_)
  with_reducible refine CC.out.mono ?_
  rintro e w2 ⟨y, rfl, hgood, b1⟩
  obtain ⟨y1, y2, y3, y4, y5, ya, yl, yc, ys, yk⟩ := y
  have hss := s.out
  have hs2 := b1.size
  have ba := (Below.refl w2.heap.size w2).alloc (Nat.le_refl _) (.cells #[.int .i64 0, .int .i64 0, .int .i64 0, .int .i64 0, .int .i64 0, .slice none 0 0, .int .i64 0] 30)
  have BX := (X.out.below b1).below ba
  unfold Blk at BX
  have BV := (Blk.alloc w2 #[.int .i64 0, .int .i64 0, .int .i64 0, .int .i64 0, .int .i64 0, .slice none 0 0, .int .i64 0] (30)).other (q := Q5) (ds := #[.slice a n c, .int .i64 P6, .int .i64 F6]) (show w2.heap.size ≠ Q5 by omega)
  unfold Blk at BV
  have hq6 : Q5 + 1 ≤ w2.heap.size := by omega
  replace X := hid ((((X.out.below b1).below ba).row #[.slice a n c, .int .i64 P6, .int .i64 F6]).other (q := w2.heap.size) (ds := #[.int .i64 y1, .int .i64 y2, .int .i64 y3, .int .i64 y4, .int .i64 y5, .slice ya yl yc, .int .i64 ys]) (by omega))
  have hltY := Y.out.lt
  have hltG := G.out.lt
  have hltG2 := G2.out.lt
  have hltHQ := HQ.out.lt
  have hltHN := HN.out.lt
  replace Y := hid ((((Y.out.below b1).below ba).other (q := Q5) (ds := #[.slice a n c, .int .i64 P6, .int .i64 F6]) (by omega)).other (q := w2.heap.size) (ds := #[.int .i64 y1, .int .i64 y2, .int .i64 y3, .int .i64 y4, .int .i64 y5, .slice ya yl yc, .int .i64 ys]) (by omega))
  replace G := hid ((((G.out.below b1).below ba).other (q := Q5) (ds := #[.slice a n c, .int .i64 P6, .int .i64 F6]) (by omega)).other (q := w2.heap.size) (ds := #[.int .i64 y1, .int .i64 y2, .int .i64 y3, .int .i64 y4, .int .i64 y5, .slice ya yl yc, .int .i64 ys]) (by omega))
  replace G2 := hid ((((G2.out.below b1).below ba).other (q := Q5) (ds := #[.slice a n c, .int .i64 P6, .int .i64 F6]) (by omega)).other (q := w2.heap.size) (ds := #[.int .i64 y1, .int .i64 y2, .int .i64 y3, .int .i64 y4, .int .i64 y5, .slice ya yl yc, .int .i64 ys]) (by omega))
  replace HQ := hid ((((HQ.out.below b1).below ba).other (q := Q5) (ds := #[.slice a n c, .int .i64 P6, .int .i64 F6]) (by omega)).other (q := w2.heap.size) (ds := #[.int .i64 y1, .int .i64 y2, .int .i64 y3, .int .i64 y4, .int .i64 y5, .slice ya yl yc, .int .i64 ys]) (by omega))
  replace HN := hid ((((HN.out.below b1).below ba).other (q := Q5) (ds := #[.slice a n c, .int .i64 P6, .int .i64 F6]) (by omega)).other (q := w2.heap.size) (ds := #[.int .i64 y1, .int .i64 y2, .int .i64 y3, .int .i64 y4, .int .i64 y5, .slice ya yl yc, .int .i64 ys]) (by omega))
  have HT := hid (((Blk.alloc w2 #[.int .i64 0, .int .i64 0, .int .i64 0, .int .i64 0, .int .i64 0, .slice none 0 0, .int .i64 0] (30)).other (q := Q5) (ds := #[.slice a n c, .int .i64 P6, .int .i64 F6]) (show w2.heap.size ≠ Q5 by omega)).row #[.int .i64 y1, .int .i64 y2, .int .i64 y3, .int .i64 y4, .int .i64 y5, .slice ya yl yc, .int .i64 ys])
  have OW := hid (fun z => ((((hgood z).2.below ba).row (q := Q5) (by have := hss; omega) #[.slice a n c, .int .i64 P6, .int .i64 F6]).rowN (q := w2.heap.size) #[.int .i64 y1, .int .i64 y2, .int .i64 y3, .int .i64 y4, .int .i64 y5, .slice ya yl yc, .int .i64 ys] (fun g e => by have := ((hgood z).2.lt g e).2; omega)).weaken (b' := Q5 + 1) (by omega))
  have SM := hid (fun z => (hgood z).1)
  replace B := hid (setRow_below (q := w2.heap.size) (cs := #[.int .i64 y1, .int .i64 y2, .int .i64 y3, .int .i64 y4, .int .i64 y5, .slice ya yl yc, .int .i64 ys]) (setRow_below (q := Q5) (cs := #[.slice a n c, .int .i64 P6, .int .i64 F6]) ((B.out.trans (b1.mono B.out.size)).trans (ba.mono (B.out.trans (b1.mono B.out.size)).size)) (by omega)) (by omega))
  replace s : Hid (Q5 + 1 ≤ (((w2.alloc (.cells #[.int .i64 0, .int .i64 0, .int .i64 0, .int .i64 0, .int .i64 0, .slice none 0 0, .int .i64 0] 30)).setRow Q5 #[.slice a n c, .int .i64 P6, .int .i64 F6]).setRow w2.heap.size #[.int .i64 y1, .int .i64 y2, .int .i64 y3, .int .i64 y4, .int .i64 y5, .slice ya yl yc, .int .i64 ys]).heap.size) := by unfold Hid; simp; omega
  clear CC LD b1 hss hs2 ba U6 hgood hltY hltG hltG2 hltHQ hltHN
  go_upto_region 7 with (first | refine wpList_store_row rfl 102 (.tmp 5) (.tmp 43) rfl Q5 #[.slice a n c, .int .i64 P6, .int .i64 F6] rfl rfl 102 _ BX sizeRead rfl (by simp [Value.oneCell']) ?_ | refine wpList_store_row rfl 30 (.tmp 11) (.tmp 44) rfl w2.heap.size #[.int .i64 y1, .int .i64 y2, .int .i64 y3, .int .i64 y4, .int .i64 y5, .slice ya yl yc, .int .i64 ys] rfl rfl 30 _ BV sizeTask rfl (by simp [Value.oneCell']) ?_)
  clear BX BV
  generalize ((w2.alloc (.cells #[.int .i64 0, .int .i64 0, .int .i64 0, .int .i64 0, .int .i64 0, .slice none 0 0, .int .i64 0] 30)).setRow Q5 #[.slice a n c, .int .i64 P6, .int .i64 F6]).setRow w2.heap.size #[.int .i64 y1, .int .i64 y2, .int .i64 y3, .int .i64 y4, .int .i64 y5, .slice ya yl yc, .int .i64 ys] = W6 at *
  generalize w2.heap.size = Q11 at *
  have LD := X.out.loadAt Try.underlying102 rfl sizeRead
  have CC := hid (dend_any a n c P6 F6 W6)
  have EE := hid (fun h => endT_err (n := n) (A := P6) (E := F6) h)
  have EZ := hid (fun h => endT_zero (n := n) (A := P6) (E := F6) h)
  generalize hen : endT n P6 F6 = EN at *
  have HEN := hid hen
  clear hen
  obtain ⟨en, ee⟩ := EN
  simp only at CC EE EZ
  go_wp2_with (refine wpList_load_at 102 rfl (.tmp 5) rfl _ _ rfl _ LD ?_)
  with_reducible refine CC.out.mono ?_
  rintro e W7 ⟨rfl, b1⟩
  replace Y := hid (Y.out.below b1)
  replace G := hid (G.out.below b1)
  replace G2 := hid (G2.out.below b1)
  replace HQ := hid (HQ.out.below b1)
  replace HN := hid (HN.out.below b1)
  replace HT := hid (HT.out.below b1)
  replace OW := hid (fun z => (OW.out z).below b1)
  replace B := hid (B.out.trans (b1.mono B.out.size))
  clear CC LD b1 X
  by_cases hE : ee = 0
  · obtain ⟨rfl, rfl⟩ : en = 0 ∧ ee = 0 := by have := EZ.out hE; simpa using this
    have hf := EE.out rfl
    have OV1 := hid (OW.out hf)
    have SM1 := hid (SM.out hf)
    clear EZ EE OW SM hE hf
    go_upto_region 10 with fail
    have dy : Blk W7.drew w.heap.size 34 #[.int .i64 0, .int .i64 0, .int .i64 0, .int .i64 0, .int .i64 0, .int .i64 0, .int .i64 0, .int .i64 0, .int .i64 0, .int .i64 0, .int .i64 0, .int .i64 0, .int .i64 0, .int .i64 0, .int .i64 0, .int .i64 0, .int .i64 0, .int .i64 0, .int .i64 0, .int .i64 0, .int .i64 0, .int .i64 0, .int .i64 0, .int .i64 0, .int .i64 0, .slice none 0 0, .int .i64 0] := Y.out
    have dg : Blk W7.drew g 2 #[.int .i64 x0, .int .i64 x1, .int .i64 x2] := G.out
    have dg2 : Blk W7.drew g' 2 #[.int .i64 m0, .int .i64 m1, .int .i64 m2, .int .i64 m3] := G2.out
    have dq : Blk W7.drew Q9 25 #[.int .i64 m4, .int .i64 m5, .int .i64 m6, .int .i64 m7, .int .i64 m8, .int .i64 m9, .int .i64 m10] := HQ.out
    have dn : Blk W7.drew Q10 27 #[.int .i64 m11, .int .i64 m12, .int .i64 m13, .int .i64 m14, .int .i64 m15] := HN.out
    have dt : Blk W7.drew Q11 30 #[.int .i64 y1, .int .i64 y2, .int .i64 y3, .int .i64 y4, .int .i64 y5, .slice ya yl yc, .int .i64 ys] := HT.out
    have dv : OwnN (Q5 + 1) W7.drew (.slice ya yl yc) yl yk := OV1.out
    have db : Below w.heap.size w W7.drew := B.out.drew
    have DV := hid dv
    clear Y G G2 HQ HN HT OV1 B dv
    refine wp_region_held_drew (S := fun W => Blk W g 2 #[.int .i64 x0, .int .i64 x1, .int .i64 x2] ∧ Blk W g' 2 #[.int .i64 m0, .int .i64 m1, .int .i64 m2, .int .i64 m3] ∧ Blk W Q9 25 #[.int .i64 m4, .int .i64 m5, .int .i64 m6, .int .i64 m7, .int .i64 m8, .int .i64 m9, .int .i64 m10] ∧ Blk W Q10 27 #[.int .i64 m11, .int .i64 m12, .int .i64 m13, .int .i64 m14, .int .i64 m15] ∧ Blk W Q11 30 #[.int .i64 y1, .int .i64 y2, .int .i64 y3, .int .i64 y4, .int .i64 y5, .slice ya yl yc, .int .i64 ys]) (by kernel_rfl) ⟨dg, dg2, dq, dn, dt⟩ (fun hHeld => ?_)
    generalize W7.drew = WD at *
    refine wpAnyH_take (i := 0) (v := .slice (some ⟨g, 0, none⟩) 3 3) rfl (by kernel_rfl) (by kernel_rfl) (by kernel_rfl) (fun _ _ _ h => h) (Or.inl ⟨by rfl, ?_⟩) (by assumption) ?_
    · (intro w hSw; (try dsimp only at hSw); obtain ⟨hg, hg2, hq, hn, ht⟩ := hSw;  go_simp)
    (try simp only [Act.put, List.getElem_toArray, List.getElem_cons_succ, List.getElem_cons_zero, List.setIfInBounds_toArray, List.set_cons_zero, List.set_cons_succ])
    refine wpAnyH_take (i := 1) (v := .pointer (some ⟨g, 0, none⟩)) rfl (by kernel_rfl) (by kernel_rfl) (by kernel_rfl) (fun _ _ _ h => h) (Or.inl ⟨by rfl, ?_⟩) (by assumption) ?_
    · (intro w hSw; (try dsimp only at hSw); obtain ⟨hg, hg2, hq, hn, ht⟩ := hSw;  go_simp)
    (try simp only [Act.put, List.getElem_toArray, List.getElem_cons_succ, List.getElem_cons_zero, List.setIfInBounds_toArray, List.set_cons_zero, List.set_cons_succ])
    refine wpAnyH_take (i := 2) (v := .int .i64 x0) rfl (by kernel_rfl) (by kernel_rfl) (by kernel_rfl) (fun _ _ _ h => h) (Or.inl ⟨by rfl, ?_⟩) (by assumption) ?_
    · (intro w hSw; (try dsimp only at hSw); obtain ⟨hg, hg2, hq, hn, ht⟩ := hSw; have hc := hg.cellAt 0 _ rfl; go_simp)
    (try simp only [Act.put, List.getElem_toArray, List.getElem_cons_succ, List.getElem_cons_zero, List.setIfInBounds_toArray, List.set_cons_zero, List.set_cons_succ])
    refine wpAnyH_take (i := 3) (v := .slice (some ⟨g, 0, none⟩) 3 3) rfl (by kernel_rfl) (by kernel_rfl) (by kernel_rfl) (fun _ _ _ h => h) (Or.inl ⟨by rfl, ?_⟩) (by assumption) ?_
    · (intro w hSw; (try dsimp only at hSw); obtain ⟨hg, hg2, hq, hn, ht⟩ := hSw;  go_simp)
    (try simp only [Act.put, List.getElem_toArray, List.getElem_cons_succ, List.getElem_cons_zero, List.setIfInBounds_toArray, List.set_cons_zero, List.set_cons_succ])
    refine wpAnyH_take (i := 4) (v := .pointer (some ⟨g, 1, none⟩)) rfl (by kernel_rfl) (by kernel_rfl) (by kernel_rfl) (fun _ _ _ h => h) (Or.inl ⟨by rfl, ?_⟩) (by assumption) ?_
    · (intro w hSw; (try dsimp only at hSw); obtain ⟨hg, hg2, hq, hn, ht⟩ := hSw;  go_simp)
    (try simp only [Act.put, List.getElem_toArray, List.getElem_cons_succ, List.getElem_cons_zero, List.setIfInBounds_toArray, List.set_cons_zero, List.set_cons_succ])
    refine wpAnyH_take (i := 5) (v := .int .i64 x1) rfl (by kernel_rfl) (by kernel_rfl) (by kernel_rfl) (fun _ _ _ h => h) (Or.inl ⟨by rfl, ?_⟩) (by assumption) ?_
    · (intro w hSw; (try dsimp only at hSw); obtain ⟨hg, hg2, hq, hn, ht⟩ := hSw; have hc := hg.cellAt 1 _ rfl; go_simp)
    (try simp only [Act.put, List.getElem_toArray, List.getElem_cons_succ, List.getElem_cons_zero, List.setIfInBounds_toArray, List.set_cons_zero, List.set_cons_succ])
    refine wpAnyH_take (i := 6) (v := .slice (some ⟨g, 0, none⟩) 3 3) rfl (by kernel_rfl) (by kernel_rfl) (by kernel_rfl) (fun _ _ _ h => h) (Or.inl ⟨by rfl, ?_⟩) (by assumption) ?_
    · (intro w hSw; (try dsimp only at hSw); obtain ⟨hg, hg2, hq, hn, ht⟩ := hSw;  go_simp)
    (try simp only [Act.put, List.getElem_toArray, List.getElem_cons_succ, List.getElem_cons_zero, List.setIfInBounds_toArray, List.set_cons_zero, List.set_cons_succ])
    refine wpAnyH_take (i := 7) (v := .pointer (some ⟨g, 2, none⟩)) rfl (by kernel_rfl) (by kernel_rfl) (by kernel_rfl) (fun _ _ _ h => h) (Or.inl ⟨by rfl, ?_⟩) (by assumption) ?_
    · (intro w hSw; (try dsimp only at hSw); obtain ⟨hg, hg2, hq, hn, ht⟩ := hSw;  go_simp)
    (try simp only [Act.put, List.getElem_toArray, List.getElem_cons_succ, List.getElem_cons_zero, List.setIfInBounds_toArray, List.set_cons_zero, List.set_cons_succ])
    refine wpAnyH_take (i := 8) (v := .int .i64 x2) rfl (by kernel_rfl) (by kernel_rfl) (by kernel_rfl) (fun _ _ _ h => h) (Or.inl ⟨by rfl, ?_⟩) (by assumption) ?_
    · (intro w hSw; (try dsimp only at hSw); obtain ⟨hg, hg2, hq, hn, ht⟩ := hSw; have hc := hg.cellAt 2 _ rfl; go_simp)
    (try simp only [Act.put, List.getElem_toArray, List.getElem_cons_succ, List.getElem_cons_zero, List.setIfInBounds_toArray, List.set_cons_zero, List.set_cons_succ])
    refine wpAnyH_take (i := 9) (v := .int .i64 kd) rfl (by kernel_rfl) (by kernel_rfl) (by kernel_rfl) (fun _ _ _ h => h) (Or.inl ⟨by rfl, ?_⟩) (by assumption) ?_
    · (intro w hSw; (try dsimp only at hSw); obtain ⟨hg, hg2, hq, hn, ht⟩ := hSw;  go_simp)
    (try simp only [Act.put, List.getElem_toArray, List.getElem_cons_succ, List.getElem_cons_zero, List.setIfInBounds_toArray, List.set_cons_zero, List.set_cons_succ])
    refine wpAnyH_take (i := 10) (v := .slice (some ⟨g', 0, none⟩) 4 4) rfl (by kernel_rfl) (by kernel_rfl) (by kernel_rfl) (fun _ _ _ h => h) (Or.inl ⟨by rfl, ?_⟩) (by assumption) ?_
    · (intro w hSw; (try dsimp only at hSw); obtain ⟨hg, hg2, hq, hn, ht⟩ := hSw;  go_simp)
    (try simp only [Act.put, List.getElem_toArray, List.getElem_cons_succ, List.getElem_cons_zero, List.setIfInBounds_toArray, List.set_cons_zero, List.set_cons_succ])
    refine wpAnyH_take (i := 11) (v := .pointer (some ⟨g', 0, none⟩)) rfl (by kernel_rfl) (by kernel_rfl) (by kernel_rfl) (fun _ _ _ h => h) (Or.inl ⟨by rfl, ?_⟩) (by assumption) ?_
    · (intro w hSw; (try dsimp only at hSw); obtain ⟨hg, hg2, hq, hn, ht⟩ := hSw;  go_simp)
    (try simp only [Act.put, List.getElem_toArray, List.getElem_cons_succ, List.getElem_cons_zero, List.setIfInBounds_toArray, List.set_cons_zero, List.set_cons_succ])
    refine wpAnyH_take (i := 12) (v := .int .i64 m0) rfl (by kernel_rfl) (by kernel_rfl) (by kernel_rfl) (fun _ _ _ h => h) (Or.inl ⟨by rfl, ?_⟩) (by assumption) ?_
    · (intro w hSw; (try dsimp only at hSw); obtain ⟨hg, hg2, hq, hn, ht⟩ := hSw; have hc := hg2.cellAt 0 _ rfl; go_simp)
    (try simp only [Act.put, List.getElem_toArray, List.getElem_cons_succ, List.getElem_cons_zero, List.setIfInBounds_toArray, List.set_cons_zero, List.set_cons_succ])
    refine wpAnyH_take (i := 13) (v := .slice (some ⟨g', 0, none⟩) 4 4) rfl (by kernel_rfl) (by kernel_rfl) (by kernel_rfl) (fun _ _ _ h => h) (Or.inl ⟨by rfl, ?_⟩) (by assumption) ?_
    · (intro w hSw; (try dsimp only at hSw); obtain ⟨hg, hg2, hq, hn, ht⟩ := hSw;  go_simp)
    (try simp only [Act.put, List.getElem_toArray, List.getElem_cons_succ, List.getElem_cons_zero, List.setIfInBounds_toArray, List.set_cons_zero, List.set_cons_succ])
    refine wpAnyH_take (i := 14) (v := .pointer (some ⟨g', 1, none⟩)) rfl (by kernel_rfl) (by kernel_rfl) (by kernel_rfl) (fun _ _ _ h => h) (Or.inl ⟨by rfl, ?_⟩) (by assumption) ?_
    · (intro w hSw; (try dsimp only at hSw); obtain ⟨hg, hg2, hq, hn, ht⟩ := hSw;  go_simp)
    (try simp only [Act.put, List.getElem_toArray, List.getElem_cons_succ, List.getElem_cons_zero, List.setIfInBounds_toArray, List.set_cons_zero, List.set_cons_succ])
    refine wpAnyH_take (i := 15) (v := .int .i64 m1) rfl (by kernel_rfl) (by kernel_rfl) (by kernel_rfl) (fun _ _ _ h => h) (Or.inl ⟨by rfl, ?_⟩) (by assumption) ?_
    · (intro w hSw; (try dsimp only at hSw); obtain ⟨hg, hg2, hq, hn, ht⟩ := hSw; have hc := hg2.cellAt 1 _ rfl; go_simp)
    (try simp only [Act.put, List.getElem_toArray, List.getElem_cons_succ, List.getElem_cons_zero, List.setIfInBounds_toArray, List.set_cons_zero, List.set_cons_succ])
    refine wpAnyH_take (i := 16) (v := .slice (some ⟨g', 0, none⟩) 4 4) rfl (by kernel_rfl) (by kernel_rfl) (by kernel_rfl) (fun _ _ _ h => h) (Or.inl ⟨by rfl, ?_⟩) (by assumption) ?_
    · (intro w hSw; (try dsimp only at hSw); obtain ⟨hg, hg2, hq, hn, ht⟩ := hSw;  go_simp)
    (try simp only [Act.put, List.getElem_toArray, List.getElem_cons_succ, List.getElem_cons_zero, List.setIfInBounds_toArray, List.set_cons_zero, List.set_cons_succ])
    refine wpAnyH_take (i := 17) (v := .pointer (some ⟨g', 2, none⟩)) rfl (by kernel_rfl) (by kernel_rfl) (by kernel_rfl) (fun _ _ _ h => h) (Or.inl ⟨by rfl, ?_⟩) (by assumption) ?_
    · (intro w hSw; (try dsimp only at hSw); obtain ⟨hg, hg2, hq, hn, ht⟩ := hSw;  go_simp)
    (try simp only [Act.put, List.getElem_toArray, List.getElem_cons_succ, List.getElem_cons_zero, List.setIfInBounds_toArray, List.set_cons_zero, List.set_cons_succ])
    refine wpAnyH_take (i := 18) (v := .int .i64 m2) rfl (by kernel_rfl) (by kernel_rfl) (by kernel_rfl) (fun _ _ _ h => h) (Or.inl ⟨by rfl, ?_⟩) (by assumption) ?_
    · (intro w hSw; (try dsimp only at hSw); obtain ⟨hg, hg2, hq, hn, ht⟩ := hSw; have hc := hg2.cellAt 2 _ rfl; go_simp)
    (try simp only [Act.put, List.getElem_toArray, List.getElem_cons_succ, List.getElem_cons_zero, List.setIfInBounds_toArray, List.set_cons_zero, List.set_cons_succ])
    refine wpAnyH_take (i := 19) (v := .slice (some ⟨g', 0, none⟩) 4 4) rfl (by kernel_rfl) (by kernel_rfl) (by kernel_rfl) (fun _ _ _ h => h) (Or.inl ⟨by rfl, ?_⟩) (by assumption) ?_
    · (intro w hSw; (try dsimp only at hSw); obtain ⟨hg, hg2, hq, hn, ht⟩ := hSw;  go_simp)
    (try simp only [Act.put, List.getElem_toArray, List.getElem_cons_succ, List.getElem_cons_zero, List.setIfInBounds_toArray, List.set_cons_zero, List.set_cons_succ])
    refine wpAnyH_take (i := 20) (v := .pointer (some ⟨g', 3, none⟩)) rfl (by kernel_rfl) (by kernel_rfl) (by kernel_rfl) (fun _ _ _ h => h) (Or.inl ⟨by rfl, ?_⟩) (by assumption) ?_
    · (intro w hSw; (try dsimp only at hSw); obtain ⟨hg, hg2, hq, hn, ht⟩ := hSw;  go_simp)
    (try simp only [Act.put, List.getElem_toArray, List.getElem_cons_succ, List.getElem_cons_zero, List.setIfInBounds_toArray, List.set_cons_zero, List.set_cons_succ])
    refine wpAnyH_take (i := 21) (v := .int .i64 m3) rfl (by kernel_rfl) (by kernel_rfl) (by kernel_rfl) (fun _ _ _ h => h) (Or.inl ⟨by rfl, ?_⟩) (by assumption) ?_
    · (intro w hSw; (try dsimp only at hSw); obtain ⟨hg, hg2, hq, hn, ht⟩ := hSw; have hc := hg2.cellAt 3 _ rfl; go_simp)
    (try simp only [Act.put, List.getElem_toArray, List.getElem_cons_succ, List.getElem_cons_zero, List.setIfInBounds_toArray, List.set_cons_zero, List.set_cons_succ])
    refine wpAnyH_take (i := 22) (v := .agg #[.int .i64 m4, .int .i64 m5, .int .i64 m6, .int .i64 m7, .int .i64 m8, .int .i64 m9, .int .i64 m10]) rfl (by kernel_rfl) (by kernel_rfl) (by kernel_rfl) (fun _ _ _ h => h) (yieldsIf_load_mid (by rfl) 25 (.tmp 9) rfl Q9 0 rfl (#[.int .i64 m4, .int .i64 m5, .int .i64 m6, .int .i64 m7, .int .i64 m8, .int .i64 m9, .int .i64 m10] : Array Value).toList _ (fun W hW => hW.2.2.1.range) Try.underlying25 rfl sizeQue) (by assumption) ?_
    (try simp only [Act.put, List.getElem_toArray, List.getElem_cons_succ, List.getElem_cons_zero, List.setIfInBounds_toArray, List.set_cons_zero, List.set_cons_succ])
    refine wpAnyH_take (i := 23) (v := .agg #[.int .i64 m11, .int .i64 m12, .int .i64 m13, .int .i64 m14, .int .i64 m15]) rfl (by kernel_rfl) (by kernel_rfl) (by kernel_rfl) (fun _ _ _ h => h) (yieldsIf_load_mid (by rfl) 27 (.tmp 10) rfl Q10 0 rfl (#[.int .i64 m11, .int .i64 m12, .int .i64 m13, .int .i64 m14, .int .i64 m15] : Array Value).toList _ (fun W hW => hW.2.2.2.1.range) Try.underlying27 rfl sizeNod) (by assumption) ?_
    (try simp only [Act.put, List.getElem_toArray, List.getElem_cons_succ, List.getElem_cons_zero, List.setIfInBounds_toArray, List.set_cons_zero, List.set_cons_succ])
    refine wpAnyH_take (i := 24) (v := .agg #[.int .i64 y1, .int .i64 y2, .int .i64 y3, .int .i64 y4, .int .i64 y5, .slice ya yl yc, .int .i64 ys]) rfl (by kernel_rfl) (by kernel_rfl) (by kernel_rfl) (fun _ _ _ h => h) (yieldsIf_load_mid (by rfl) 30 (.tmp 11) rfl Q11 0 rfl (#[.int .i64 y1, .int .i64 y2, .int .i64 y3, .int .i64 y4, .int .i64 y5, .slice ya yl yc, .int .i64 ys] : Array Value).toList _ (fun W hW => hW.2.2.2.2.range) Try.underlying30 rfl sizeTask) (by assumption) ?_
    (try simp only [Act.put, List.getElem_toArray, List.getElem_cons_succ, List.getElem_cons_zero, List.setIfInBounds_toArray, List.set_cons_zero, List.set_cons_succ])
    refine wpAnyH_take (i := 25) (v := .agg #[.int .i64 kd, .int .i64 m0, .int .i64 m1, .int .i64 m2, .int .i64 m3, .int .i64 m4, .int .i64 m5, .int .i64 m6, .int .i64 m7, .int .i64 m8, .int .i64 m9, .int .i64 m10, .int .i64 m11, .int .i64 m12, .int .i64 m13, .int .i64 m14, .int .i64 m15, .int .i64 y1, .int .i64 y2, .int .i64 y3, .int .i64 y4, .int .i64 y5, .slice ya yl yc, .int .i64 ys]) rfl (by kernel_rfl) (by kernel_rfl) (by kernel_rfl) (fun _ _ _ h => h) (yieldsIf_build (by rfl) _ _ rfl #[.int .i64 kd, .int .i64 m0, .int .i64 m1, .int .i64 m2, .int .i64 m3, .int .i64 m4, .int .i64 m5, .int .i64 m6, .int .i64 m7, .int .i64 m8, .int .i64 m9, .int .i64 m10, .int .i64 m11, .int .i64 m12, .int .i64 m13, .int .i64 m14, .int .i64 m15, .int .i64 y1, .int .i64 y2, .int .i64 y3, .int .i64 y4, .int .i64 y5, .slice ya yl yc, .int .i64 ys] (by kernel_rfl)) (by assumption) ?_
    (try simp only [Act.put, List.getElem_toArray, List.getElem_cons_succ, List.getElem_cons_zero, List.setIfInBounds_toArray, List.set_cons_zero, List.set_cons_succ])
    refine wpAnyH_take (i := 26) (v := .agg #[.int .i64 x0, .int .i64 x1, .int .i64 x2, .int .i64 kd, .int .i64 m0, .int .i64 m1, .int .i64 m2, .int .i64 m3, .int .i64 m4, .int .i64 m5, .int .i64 m6, .int .i64 m7, .int .i64 m8, .int .i64 m9, .int .i64 m10, .int .i64 m11, .int .i64 m12, .int .i64 m13, .int .i64 m14, .int .i64 m15, .int .i64 y1, .int .i64 y2, .int .i64 y3, .int .i64 y4, .int .i64 y5, .slice ya yl yc, .int .i64 ys]) rfl (by kernel_rfl) (by kernel_rfl) (by kernel_rfl) (fun _ _ _ h => h) (yieldsIf_build (by rfl) _ _ rfl #[.int .i64 x0, .int .i64 x1, .int .i64 x2, .int .i64 kd, .int .i64 m0, .int .i64 m1, .int .i64 m2, .int .i64 m3, .int .i64 m4, .int .i64 m5, .int .i64 m6, .int .i64 m7, .int .i64 m8, .int .i64 m9, .int .i64 m10, .int .i64 m11, .int .i64 m12, .int .i64 m13, .int .i64 m14, .int .i64 m15, .int .i64 y1, .int .i64 y2, .int .i64 y3, .int .i64 y4, .int .i64 y5, .slice ya yl yc, .int .i64 ys] (by kernel_rfl)) (by assumption) ?_
    (try simp only [Act.put, List.getElem_toArray, List.getElem_cons_succ, List.getElem_cons_zero, List.setIfInBounds_toArray, List.set_cons_zero, List.set_cons_succ])
    refine wpAnyH_take (i := 27) (v := .int .i64 0) rfl (by kernel_rfl) (by kernel_rfl) (by kernel_rfl) (fun _ _ _ h => h) (Or.inl ⟨by rfl, ?_⟩) (by assumption) ?_
    · (intro w hSw; (try dsimp only at hSw); obtain ⟨hg, hg2, hq, hn, ht⟩ := hSw;  go_simp)
    (try simp only [Act.put, List.getElem_toArray, List.getElem_cons_succ, List.getElem_cons_zero, List.setIfInBounds_toArray, List.set_cons_zero, List.set_cons_succ])
    refine wpAnyH_ready (rs := [28]) (by kernel_rfl) (by simp) ?_
    refine AllReadyH.cons rfl (fun K hK => ?_) AllReadyH.nil
    refine storeRow_step rfl 34 (.tmp 2) (.tmp 81) rfl w.heap.size #[.int .i64 x0, .int .i64 x1, .int .i64 x2, .int .i64 kd, .int .i64 m0, .int .i64 m1, .int .i64 m2, .int .i64 m3, .int .i64 m4, .int .i64 m5, .int .i64 m6, .int .i64 m7, .int .i64 m8, .int .i64 m9, .int .i64 m10, .int .i64 m11, .int .i64 m12, .int .i64 m13, .int .i64 m14, .int .i64 m15, .int .i64 y1, .int .i64 y2, .int .i64 y3, .int .i64 y4, .int .i64 y5, .slice ya yl yc, .int .i64 ys] rfl rfl 34 _ dy sizeEnt rfl (by simp [Value.oneCell']) ?_
    refine hK.out _ _ ⟨dg.other (by omega), dg2.other (by omega), dq.other (by omega), dn.other (by omega), dt.other (by omega)⟩ (fun hHeld => ?_)
    clear hK K
    (try simp only [Act.put, List.getElem_toArray, List.getElem_cons_succ, List.getElem_cons_zero, List.setIfInBounds_toArray, List.set_cons_zero, List.set_cons_succ])
    refine wpAnyH_take (i := 29) (v := .int .i64 0) rfl (by kernel_rfl) (by kernel_rfl) (by kernel_rfl) (fun _ _ _ h => h) (Or.inl ⟨by rfl, ?_⟩) (by assumption) ?_
    · (intro w hSw; (try dsimp only at hSw); obtain ⟨hg, hg2, hq, hn, ht⟩ := hSw;  go_simp)
    (try simp only [Act.put, List.getElem_toArray, List.getElem_cons_succ, List.getElem_cons_zero, List.setIfInBounds_toArray, List.set_cons_zero, List.set_cons_succ])
    refine wpAnyH_take (i := 30) (v := .int .i64 0) rfl (by kernel_rfl) (by kernel_rfl) (by kernel_rfl) (fun _ _ _ h => h) (Or.inl ⟨by rfl, ?_⟩) (by assumption) ?_
    · (intro w hSw; (try dsimp only at hSw); obtain ⟨hg, hg2, hq, hn, ht⟩ := hSw;  go_simp)
    (try simp only [Act.put, List.getElem_toArray, List.getElem_cons_succ, List.getElem_cons_zero, List.setIfInBounds_toArray, List.set_cons_zero, List.set_cons_succ])
    refine wpAnyH_done (by kernel_rfl) ?_ _
    clear hHeld
    go_wp2_with fail
    refine bodyPost_ret (results_cell3 rfl rfl ((dy.row _).loadVar Try.underlying34 rfl sizeEnt)) rfl ?_
    rw [HEN.out]
    refine ⟨_, rfl, fun h => absurd rfl h, fun _ => ?_, setRow_below db (Nat.le_refl _)⟩
    exact FIN.out _ _ (⟨y1, y2, y3, y4, y5, ya, yl, yc, ys, yk⟩ : T7) SM1.out ((DV.out.row (by omega) _).weaken (by omega))
  · have tE : (ee != 0) = true := by simpa using hE
    have BY := Y.out
    unfold Blk at BY
    have HE := hid hE
    clear EZ EE OW SM hE G G2 HQ HN HT
    go_wp2_with (first | refine wpList_built rfl 34 _ rfl #[.int .i64 0, .int .i64 0, .int .i64 0, .int .i64 0, .int .i64 0, .int .i64 0, .int .i64 0, .int .i64 0, .int .i64 0, .int .i64 0, .int .i64 0, .int .i64 0, .int .i64 0, .int .i64 0, .int .i64 0, .int .i64 0, .int .i64 0, .int .i64 0, .int .i64 0, .int .i64 0, .int .i64 0, .int .i64 0, .int .i64 0, .int .i64 0, .int .i64 0, .slice none 0 0, .int .i64 0] (by kernel_rfl) ?_ | refine wpList_store_row rfl 34 (.tmp 2) (.tmp 52) rfl w.heap.size #[.int .i64 0, .int .i64 0, .int .i64 0, .int .i64 0, .int .i64 0, .int .i64 0, .int .i64 0, .int .i64 0, .int .i64 0, .int .i64 0, .int .i64 0, .int .i64 0, .int .i64 0, .int .i64 0, .int .i64 0, .int .i64 0, .int .i64 0, .int .i64 0, .int .i64 0, .int .i64 0, .int .i64 0, .int .i64 0, .int .i64 0, .int .i64 0, .int .i64 0, .slice none 0 0, .int .i64 0] rfl rfl 34 _ BY sizeEnt rfl (by simp [Value.oneCell']) ?_)
    refine bodyPost_ret (results_cell3 rfl rfl ((Y.out.row _).loadVar Try.underlying34 rfl sizeEnt)) rfl ?_
    rw [HEN.out]
    exact ⟨_, rfl, fun _ => rfl, fun h => absurd h HE.out, setRow_below B.out (Nat.le_refl _)⟩
end Go.Proofs.Ythkbddnkcljjpaa
