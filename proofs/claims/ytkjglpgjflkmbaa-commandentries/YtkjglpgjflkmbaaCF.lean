/-
  Contracts of command: an entry is written.
-/
import Derived.Test.YtkjglpgjflkmbaaCE
namespace Go.Proofs.Ytkjglpgjflkmbaa
open Go.RowKit Go.Deep
set_option linter.unusedVariables false
set_option linter.unusedSimpArgs false

theorem Box.range {W : World} {Q : Nat} {cs : Array Value} (h : Box W Q cs) (o : Nat) (l : List Value) (e : cs.toList.drop o = l) : W.rangeAt Q o l :=
  fun j v hv => h (o + j) v (by subst e; simpa using hv)
set_option maxRecDepth 100000 in
theorem sizeCmd : (Try.prog.info? 32).map (·.size) = some 24 := by kernel_rfl
section
variable {ops : Array Oper} {rest : List Oper} {op : Oper} {a : Act} {w : World} {Q : Exit → Act → World → Prop}
theorem wpList_load_cmd (hw : Region.wanted op (yielded ops a.tmps) = true) (x : Operand) (ho : op.op = .load 32 x) (b o : Nat) (hx : a.eval x = .pointer (some ⟨b, o, none⟩)) (cs : Array Value) (hl : (Instr.loadAt 32 (.pointer (some ⟨b, o, none⟩))).run Try.prog w = .ok (.agg cs) w)
    (h : wpList Try.prog ops Q rest (a.put op.dst (.agg cs)) w) : wpList Try.prog ops Q (op :: rest) a w := by
  refine Go.BigFrame.wpList_want hw fun _ hK => ?_
  unfold Oper.wp execOp
  simp only [ho, hx, Sem.run_bind, Sem.run_pure, hl, Result.andThen_ok]
  exact hK _ _ h
end
/-- An entry's bytes. -/
def entZ (gp cl sq : Int) (cz : List Int) : List Int := bytesZ [gp, cl, sq] ++ cz
set_option maxRecDepth 100000 in
set_option maxHeartbeats 8000000 in
theorem centry_any (p : Nat) (gp cl sq : Int) (kd ci ir bt si q1 q2 q3 q4 q5 q6 q7 n1 n2 n3 n4 n5 : Int) (t1 t2 c m wk : Int) (ta : Option Addr) (tn tc : Nat) (tk : List Int) (st : Int) (w : World) (v : Value) (l : List Int) (lg bz : Bool) (h : Wr w p v l lg bz) (igp : I64 gp) (icl : I64 cl) (isq : I64 sq) (ikd : I64 kd) (ici : I64 ci) (iir : I64 ir) (ibt : I64 bt) (isi : I64 si) (iq1 : I64 q1) (iq2 : I64 q2) (iq3 : I64 q3) (iq4 : I64 q4) (iq5 : I64 q5) (iq6 : I64 q6) (iq7 : I64 q7) (in1 : I64 n1) (in2 : I64 n2) (in3 : I64 n3) (in4 : I64 n4) (in5 : I64 n5) (it1 : I64 t1) (it2 : I64 t2) (ic : I64 c) (im : I64 m) (iwk : I64 wk) (ist : I64 st) (ht : HoldsP p w ta tn tc tk) (hx : ∀ x ∈ tk, I64 x) (hm : l.length + 9800 ≤ 140737488355328) :
    Calls Try.prog 32 #[.pointer (some ⟨p, 0, none⟩), .agg #[.int .i64 gp, .int .i64 cl, .int .i64 sq, .int .i64 kd, .int .i64 ci, .int .i64 ir, .int .i64 bt, .int .i64 si, .int .i64 q1, .int .i64 q2, .int .i64 q3, .int .i64 q4, .int .i64 q5, .int .i64 q6, .int .i64 q7, .int .i64 n1, .int .i64 n2, .int .i64 n3, .int .i64 n4, .int .i64 n5, .int .i64 t1, .int .i64 t2, .int .i64 c, .int .i64 m, .int .i64 wk, .slice ta tn tc, .int .i64 st]] w fun e w' => (∃ r, e = .returned r) ∧ ∃ v', Wr w' p v' (l ++ entZ gp cl sq (cmdZ kd ci ir bt si (bytesZ [q1, q2, q3, q4, q5, q6, q7]) (bytesZ [n1, n2, n3, n4, n5]) (taskZ t1 t2 c m wk tk st))) (lg || decide (1024 < tn)) (bz || decide (kd < 0)) ∧ WK p v w w' v' := by
  have HW := hid h
  have HP := h.lt
  have HRO := h.row
  have HX := hid hx
  go_enter Try.func32, Try.ntmps32
  go_upto_region 1 with fail
  have K0 : Hid (WK p v w (w.alloc (.cells #[.int .i64 gp, .int .i64 cl, .int .i64 sq, .int .i64 kd, .int .i64 ci, .int .i64 ir, .int .i64 bt, .int .i64 si, .int .i64 q1, .int .i64 q2, .int .i64 q3, .int .i64 q4, .int .i64 q5, .int .i64 q6, .int .i64 q7, .int .i64 n1, .int .i64 n2, .int .i64 n3, .int .i64 n4, .int .i64 n5, .int .i64 t1, .int .i64 t2, .int .i64 c, .int .i64 m, .int .i64 wk, .slice ta tn tc, .int .i64 st] 34)) v) := WK.of_below ((Below.refl _ w).alloc (Nat.le_refl _) _)
  have H0 := hid (HW.out.below ((Below.refl w.heap.size w).alloc (Nat.le_refl _) (.cells #[.int .i64 gp, .int .i64 cl, .int .i64 sq, .int .i64 kd, .int .i64 ci, .int .i64 ir, .int .i64 bt, .int .i64 si, .int .i64 q1, .int .i64 q2, .int .i64 q3, .int .i64 q4, .int .i64 q5, .int .i64 q6, .int .i64 q7, .int .i64 n1, .int .i64 n2, .int .i64 n3, .int .i64 n4, .int .i64 n5, .int .i64 t1, .int .i64 t2, .int .i64 c, .int .i64 m, .int .i64 wk, .slice ta tn tc, .int .i64 st] 34)))
  have T := hid (ht.wk K0.out (fun g e => (HRO g e).1))
  have BX := hid (Box.alloc w #[.int .i64 gp, .int .i64 cl, .int .i64 sq, .int .i64 kd, .int .i64 ci, .int .i64 ir, .int .i64 bt, .int .i64 si, .int .i64 q1, .int .i64 q2, .int .i64 q3, .int .i64 q4, .int .i64 q5, .int .i64 q6, .int .i64 q7, .int .i64 n1, .int .i64 n2, .int .i64 n3, .int .i64 n4, .int .i64 n5, .int .i64 t1, .int .i64 t2, .int .i64 c, .int .i64 m, .int .i64 wk, .slice ta tn tc, .int .i64 st] (34))
  have NB0 : v.ownBlock ≠ some w.heap.size := fun e => by have := HRO _ e; omega
  have hQp : w.heap.size ≠ p := by omega
  have hQl : w.heap.size < (w.alloc (.cells #[.int .i64 gp, .int .i64 cl, .int .i64 sq, .int .i64 kd, .int .i64 ci, .int .i64 ir, .int .i64 bt, .int .i64 si, .int .i64 q1, .int .i64 q2, .int .i64 q3, .int .i64 q4, .int .i64 q5, .int .i64 q6, .int .i64 q7, .int .i64 n1, .int .i64 n2, .int .i64 n3, .int .i64 n4, .int .i64 n5, .int .i64 t1, .int .i64 t2, .int .i64 c, .int .i64 m, .int .i64 wk, .slice ta tn tc, .int .i64 st] 34)).heap.size := by simp
  clear HW HP HRO h ht hx
  generalize (w.alloc (.cells #[.int .i64 gp, .int .i64 cl, .int .i64 sq, .int .i64 kd, .int .i64 ci, .int .i64 ir, .int .i64 bt, .int .i64 si, .int .i64 q1, .int .i64 q2, .int .i64 q3, .int .i64 q4, .int .i64 q5, .int .i64 q6, .int .i64 q7, .int .i64 n1, .int .i64 n2, .int .i64 n3, .int .i64 n4, .int .i64 n5, .int .i64 t1, .int .i64 t2, .int .i64 c, .int .i64 m, .int .i64 wk, .slice ta tn tc, .int .i64 st] 34)) = W0 at *
  generalize w.heap.size = QK at *
  have C1 := hid (ints64_lit p [gp] W0 v l _ _ H0.out #[.int .i64 gp] rfl 1 rfl (by decide) (by intro x hx; simp only [List.mem_cons, List.not_mem_nil, or_false] at hx; rcases hx with rfl <;> assumption) (by omega))
  have y0 := BX.out 0 (.int .i64 gp) rfl
  go_wp2_with fail
  with_reducible refine C1.out.mono ?_
  clear y0
  rintro e W1 ⟨⟨r1, rfl⟩, v1, h1, k1⟩
  replace BX := hid (BX.out.wk k1 hQp NB0)
  have hQl1 := Nat.lt_of_lt_of_le hQl k1.size
  have NB1 : v1.ownBlock ≠ some QK := fun e => by rcases k1.row _ e with e | e; exact NB0 e; have := hQl; omega
  replace T := hid (T.out.wk k1 (fun g e => (H0.out.row g e).1))
  have H1 := hid h1
  have K1 := hid (K0.out.trans k1)
  clear C1 h1 k1 H0 K0
  have C2 := hid (ints_lit p [cl, sq] W1 v1 (l ++ bytesZ [gp]) _ _ H1.out #[.int .i64 cl, .int .i64 sq] rfl 2 rfl (by decide) (by intro x hx; simp only [List.mem_cons, List.not_mem_nil, or_false] at hx; rcases hx with rfl | rfl <;> assumption) (by have b0 := bytesZ_len [gp]; simp only [List.length_append, List.length_cons, List.length_nil] at *; omega))
  have y1 := BX.out 1 (.int .i64 cl) rfl
  have y2 := BX.out 2 (.int .i64 sq) rfl
  go_wp2_with fail
  with_reducible refine C2.out.mono ?_
  clear y1 y2
  rintro e W2 ⟨⟨r2, rfl⟩, v2, h2, k2⟩
  replace BX := hid (BX.out.wk k2 hQp NB1)
  have hQl2 := Nat.lt_of_lt_of_le hQl1 k2.size
  have NB2 : v2.ownBlock ≠ some QK := fun e => by rcases k2.row _ e with e | e; exact NB1 e; have := hQl1; omega
  replace T := hid (T.out.wk k2 (fun g e => (H1.out.row g e).1))
  have H2 := hid h2
  have K2 := hid (K1.out.trans k2)
  clear C2 h2 k2 H1 K1
  have C3 := hid (ccommand_any p kd ci ir bt si q1 q2 q3 q4 q5 q6 q7 n1 n2 n3 n4 n5 t1 t2 c m wk ta tn tc tk st W2 v2 ((l ++ bytesZ [gp]) ++ bytesZ [cl, sq]) _ _ H2.out ikd ici iir ibt isi iq1 iq2 iq3 iq4 iq5 iq6 iq7 in1 in2 in3 in4 in5 it1 it2 ic im iwk ist T.out HX.out (by have b0 := bytesZ_len [gp]; have b1 := bytesZ_len [cl, sq]; simp only [List.length_append, List.length_cons, List.length_nil] at *; omega))
  have LD := hid (run_loadAt_mid (P := Try.prog) W2 QK 3 32 [.int .i64 kd, .int .i64 ci, .int .i64 ir, .int .i64 bt, .int .i64 si, .int .i64 q1, .int .i64 q2, .int .i64 q3, .int .i64 q4, .int .i64 q5, .int .i64 q6, .int .i64 q7, .int .i64 n1, .int .i64 n2, .int .i64 n3, .int .i64 n4, .int .i64 n5, .int .i64 t1, .int .i64 t2, .int .i64 c, .int .i64 m, .int .i64 wk, .slice ta tn tc, .int .i64 st] _ (BX.out.range 3 [.int .i64 kd, .int .i64 ci, .int .i64 ir, .int .i64 bt, .int .i64 si, .int .i64 q1, .int .i64 q2, .int .i64 q3, .int .i64 q4, .int .i64 q5, .int .i64 q6, .int .i64 q7, .int .i64 n1, .int .i64 n2, .int .i64 n3, .int .i64 n4, .int .i64 n5, .int .i64 t1, .int .i64 t2, .int .i64 c, .int .i64 m, .int .i64 wk, .slice ta tn tc, .int .i64 st] rfl) Try.underlying32 rfl sizeCmd)
  go_wp2_with (refine wpList_load_cmd rfl (.tmp 17) rfl _ _ rfl _ LD.out ?_)
  clear LD
  with_reducible refine C3.out.mono ?_
  rintro e W3 ⟨⟨r3, rfl⟩, v3, h3, k3⟩
  replace BX := hid (BX.out.wk k3 hQp NB2)
  have hQl3 := Nat.lt_of_lt_of_le hQl2 k3.size
  have NB3 : v3.ownBlock ≠ some QK := fun e => by rcases k3.row _ e with e | e; exact NB2 e; have := hQl2; omega
  replace T := hid (T.out.wk k3 (fun g e => (H2.out.row g e).1))
  have H3 := hid h3
  have K3 := hid (K2.out.trans k3)
  clear C3 h3 k3 H2 K2
  go_wp2_with fail
  first | go_end0 | (refine bodyPost_ret (results_none rfl _ _ _) rfl ?_)
  exact ⟨⟨_, rfl⟩, _, by simpa [entZ, bytesZ, List.append_assoc] using H3.out, K3.out⟩

end Go.Proofs.Ytkjglpgjflkmbaa
