/-
  Contracts of command: an entry is encoded.
-/
import Derived.Test.YtkjglpgjflkmbaaCF
namespace Go.Proofs.Ytkjglpgjflkmbaa
open Go.RowKit Go.Deep
set_option linter.unusedVariables false
set_option linter.unusedSimpArgs false

theorem HoldsN.toP {w w' : World} {a : Option Addr} {n c : Nat} {l : List Int} (h : HoldsN w a n c l) (hb : Below w.heap.size w w') {p : Nat} (hp : w.heap.size ≤ p) : HoldsP p w' a n c l :=
  ⟨h.below hb, fun b o e hn => by
    obtain ⟨b', o', e', hlt, _⟩ := h.2.2.2.2 hn
    rw [e] at e'; cases e'; omega⟩
theorem Box.below {w w' : World} {Q : Nat} {cs : Array Value} (h : Box w Q cs) (hb : Below w.heap.size w w') : Box w' Q cs := fun i x e => keepc hb (h i x e)
set_option maxRecDepth 100000 in
theorem sizeEnt : (Try.prog.info? 34).map (·.size) = some 27 := by kernel_rfl
section
variable {ops : Array Oper} {rest : List Oper} {op : Oper} {a : Act} {w : World} {Q : Exit → Act → World → Prop}
theorem wpList_load_at (ty : Nat) (hw : Region.wanted op (yielded ops a.tmps) = true) (x : Operand) (ho : op.op = .load ty x) (b o : Nat) (hx : a.eval x = .pointer (some ⟨b, o, none⟩)) (cs : Array Value) (hl : (Instr.loadAt ty (.pointer (some ⟨b, o, none⟩))).run Try.prog w = .ok (.agg cs) w)
    (h : wpList Try.prog ops Q rest (a.put op.dst (.agg cs)) w) : wpList Try.prog ops Q (op :: rest) a w := by
  refine Go.BigFrame.wpList_want hw fun _ hK => ?_
  unfold Oper.wp execOp
  simp only [ho, hx, Sem.run_bind, Sem.run_pure, hl, Result.andThen_ok]
  exact hK _ _ h
end
/-- What encoding answers. -/
def encE (tn : Nat) (kd : Int) : Int := if 1024 < tn then 3 else if kd < 0 then 1 else 0
set_option maxRecDepth 100000 in
set_option maxHeartbeats 8000000 in
theorem encode_any (gp cl sq : Int) (kd ci ir bt si q1 q2 q3 q4 q5 q6 q7 n1 n2 n3 n4 n5 : Int) (t1 t2 c m wk : Int) (ta : Option Addr) (tn tc : Nat) (tk : List Int) (st : Int) (w : World) (igp : I64 gp) (icl : I64 cl) (isq : I64 sq) (ikd : I64 kd) (ici : I64 ci) (iir : I64 ir) (ibt : I64 bt) (isi : I64 si) (iq1 : I64 q1) (iq2 : I64 q2) (iq3 : I64 q3) (iq4 : I64 q4) (iq5 : I64 q5) (iq6 : I64 q6) (iq7 : I64 q7) (in1 : I64 n1) (in2 : I64 n2) (in3 : I64 n3) (in4 : I64 n4) (in5 : I64 n5) (it1 : I64 t1) (it2 : I64 t2) (ic : I64 c) (im : I64 m) (iwk : I64 wk) (ist : I64 st) (ht : HoldsN w ta tn tc tk) (hx : ∀ x ∈ tk, I64 x) :
    Calls Try.prog 31 #[.agg #[.int .i64 gp, .int .i64 cl, .int .i64 sq, .int .i64 kd, .int .i64 ci, .int .i64 ir, .int .i64 bt, .int .i64 si, .int .i64 q1, .int .i64 q2, .int .i64 q3, .int .i64 q4, .int .i64 q5, .int .i64 q6, .int .i64 q7, .int .i64 n1, .int .i64 n2, .int .i64 n3, .int .i64 n4, .int .i64 n5, .int .i64 t1, .int .i64 t2, .int .i64 c, .int .i64 m, .int .i64 wk, .slice ta tn tc, .int .i64 st], .func (.func 32) #[] #[]] w fun e w' => ∃ v, e = .returned (.tuple #[v, .int .i64 (encE tn kd)]) ∧ (encE tn kd = 0 → Own w.heap.size w' v (entZ gp cl sq (cmdZ kd ci ir bt si (bytesZ [q1, q2, q3, q4, q5, q6, q7]) (bytesZ [n1, n2, n3, n4, n5]) (taskZ t1 t2 c m wk tk st))).length (entZ gp cl sq (cmdZ kd ci ir bt si (bytesZ [q1, q2, q3, q4, q5, q6, q7]) (bytesZ [n1, n2, n3, n4, n5]) (taskZ t1 t2 c m wk tk st)))) ∧ (encE tn kd ≠ 0 → v = .slice none 0 0) ∧ Below w.heap.size w w' := by
  go_enter Try.func31, Try.ntmps31
  go_upto_region 2 with fail
  have B0 := (Below.refl w.heap.size w).alloc (Nat.le_refl _) (.cells #[.int .i64 gp, .int .i64 cl, .int .i64 sq, .int .i64 kd, .int .i64 ci, .int .i64 ir, .int .i64 bt, .int .i64 si, .int .i64 q1, .int .i64 q2, .int .i64 q3, .int .i64 q4, .int .i64 q5, .int .i64 q6, .int .i64 q7, .int .i64 n1, .int .i64 n2, .int .i64 n3, .int .i64 n4, .int .i64 n5, .int .i64 t1, .int .i64 t2, .int .i64 c, .int .i64 m, .int .i64 wk, .slice ta tn tc, .int .i64 st] 34)
  have B1 := B0.alloc (by simp) (.cells #[.slice none 0 0, .bool false, .bool false] 128)
  have T := hid (ht.toP B1 (p := w.heap.size + 1) (by omega))
  have BX := hid ((Box.alloc w #[.int .i64 gp, .int .i64 cl, .int .i64 sq, .int .i64 kd, .int .i64 ci, .int .i64 ir, .int .i64 bt, .int .i64 si, .int .i64 q1, .int .i64 q2, .int .i64 q3, .int .i64 q4, .int .i64 q5, .int .i64 q6, .int .i64 q7, .int .i64 n1, .int .i64 n2, .int .i64 n3, .int .i64 n4, .int .i64 n5, .int .i64 t1, .int .i64 t2, .int .i64 c, .int .i64 m, .int .i64 wk, .slice ta tn tc, .int .i64 st] (34)).below ((Below.refl _ _).alloc (Nat.le_refl _) (.cells #[.slice none 0 0, .bool false, .bool false] 128)))
  have H0 : Hid (Wr ((w.alloc (.cells #[.int .i64 gp, .int .i64 cl, .int .i64 sq, .int .i64 kd, .int .i64 ci, .int .i64 ir, .int .i64 bt, .int .i64 si, .int .i64 q1, .int .i64 q2, .int .i64 q3, .int .i64 q4, .int .i64 q5, .int .i64 q6, .int .i64 q7, .int .i64 n1, .int .i64 n2, .int .i64 n3, .int .i64 n4, .int .i64 n5, .int .i64 t1, .int .i64 t2, .int .i64 c, .int .i64 m, .int .i64 wk, .slice ta tn tc, .int .i64 st] 34)).alloc (.cells #[.slice none 0 0, .bool false, .bool false] 128)) (w.heap.size + 1) (.slice none 0 0) [] false false) := ⟨⟨by simp [go_sem], by simp [go_sem], by simp [go_sem], by simp [go_sem]⟩, World.ownsRow_nil _ _ _ _, BB.nil⟩
  have HX := hid hx
  have hz : ((w.alloc (.cells #[.int .i64 gp, .int .i64 cl, .int .i64 sq, .int .i64 kd, .int .i64 ci, .int .i64 ir, .int .i64 bt, .int .i64 si, .int .i64 q1, .int .i64 q2, .int .i64 q3, .int .i64 q4, .int .i64 q5, .int .i64 q6, .int .i64 q7, .int .i64 n1, .int .i64 n2, .int .i64 n3, .int .i64 n4, .int .i64 n5, .int .i64 t1, .int .i64 t2, .int .i64 c, .int .i64 m, .int .i64 wk, .slice ta tn tc, .int .i64 st] 34)).alloc (.cells #[.slice none 0 0, .bool false, .bool false] 128)).heap.size = w.heap.size + 1 + 1 := by simp
  clear ht hx B0
  generalize hW : ((w.alloc (.cells #[.int .i64 gp, .int .i64 cl, .int .i64 sq, .int .i64 kd, .int .i64 ci, .int .i64 ir, .int .i64 bt, .int .i64 si, .int .i64 q1, .int .i64 q2, .int .i64 q3, .int .i64 q4, .int .i64 q5, .int .i64 q6, .int .i64 q7, .int .i64 n1, .int .i64 n2, .int .i64 n3, .int .i64 n4, .int .i64 n5, .int .i64 t1, .int .i64 t2, .int .i64 c, .int .i64 m, .int .i64 wk, .slice ta tn tc, .int .i64 st] 34)).alloc (.cells #[.slice none 0 0, .bool false, .bool false] 128)) = W0 at *
  clear hW
  have C1 := hid (centry_any (w.heap.size + 1) gp cl sq kd ci ir bt si q1 q2 q3 q4 q5 q6 q7 n1 n2 n3 n4 n5 t1 t2 c m wk ta tn tc tk st W0 (.slice none 0 0) [] _ _ H0.out igp icl isq ikd ici iir ibt isi iq1 iq2 iq3 iq4 iq5 iq6 iq7 in1 in2 in3 in4 in5 it1 it2 ic im iwk ist T.out HX.out (by simp))
  have LD := hid (run_loadAt_mid (P := Try.prog) W0 w.heap.size 0 34 [.int .i64 gp, .int .i64 cl, .int .i64 sq, .int .i64 kd, .int .i64 ci, .int .i64 ir, .int .i64 bt, .int .i64 si, .int .i64 q1, .int .i64 q2, .int .i64 q3, .int .i64 q4, .int .i64 q5, .int .i64 q6, .int .i64 q7, .int .i64 n1, .int .i64 n2, .int .i64 n3, .int .i64 n4, .int .i64 n5, .int .i64 t1, .int .i64 t2, .int .i64 c, .int .i64 m, .int .i64 wk, .slice ta tn tc, .int .i64 st] _ (BX.out.range 0 [.int .i64 gp, .int .i64 cl, .int .i64 sq, .int .i64 kd, .int .i64 ci, .int .i64 ir, .int .i64 bt, .int .i64 si, .int .i64 q1, .int .i64 q2, .int .i64 q3, .int .i64 q4, .int .i64 q5, .int .i64 q6, .int .i64 q7, .int .i64 n1, .int .i64 n2, .int .i64 n3, .int .i64 n4, .int .i64 n5, .int .i64 t1, .int .i64 t2, .int .i64 c, .int .i64 m, .int .i64 wk, .slice ta tn tc, .int .i64 st] rfl) Try.underlying34 rfl sizeEnt)
  go_wp2_with (refine wpList_load_at 34 rfl (.tmp 2) rfl _ _ rfl _ LD.out ?_)
  with_reducible refine C1.out.mono ?_
  rintro e W1 ⟨⟨r1, rfl⟩, v1, h1, k1⟩
  clear C1 LD
  have hB := B1.trans ((k1.below (by omega) (by intro g e; cases e)).mono (by omega : w.heap.size ≤ w.heap.size + 1))
  rw [List.nil_append] at h1
  have H1 := hid h1.2
  obtain ⟨y0, y1, y2⟩ := h1.1.1
  clear h1 k1 H0 T BX HX B1
  by_cases c1 : 1024 < tn
  · have hE : encE tn kd = 3 := by simp [encE, c1]
    simp only [c1, decide_true, Bool.or_true, Bool.false_or] at y1
    go_wp2_with fail
    refine bodyPost_ret (v := .tuple #[.slice none 0 0, .int .i64 3]) (by simp [results, Try.results31, go_sem]) rfl ⟨_, by rw [hE], by omega, fun _ => rfl, hB⟩
  · simp only [c1, decide_false, Bool.or_false, Bool.false_or] at y1
    by_cases c2 : kd < 0
    · have hE : encE tn kd = 1 := by simp [encE, c1, c2]
      simp only [c2, decide_true, Bool.or_true, Bool.false_or] at y2
      go_wp2_with fail
      refine bodyPost_ret (v := .tuple #[.slice none 0 0, .int .i64 1]) (by simp [results, Try.results31, go_sem]) rfl ⟨_, by rw [hE], by omega, fun _ => rfl, hB⟩
    · have hE : encE tn kd = 0 := by simp [encE, c1, c2]
      simp only [c2, decide_false, Bool.or_false, Bool.false_or] at y2
      go_wp2_with fail
      refine bodyPost_ret (v := .tuple #[v1, .int .i64 0]) (by simp [results, Try.results31, go_sem]) rfl ⟨_, by rw [hE], fun _ => H1.out.base (by omega), by omega, hB⟩

set_option maxRecDepth 100000 in
set_option maxHeartbeats 8000000 in
theorem encentry_any (gp cl sq : Int) (kd ci ir bt si q1 q2 q3 q4 q5 q6 q7 n1 n2 n3 n4 n5 : Int) (t1 t2 c m wk : Int) (ta : Option Addr) (tn tc : Nat) (tk : List Int) (st : Int) (w : World) (igp : I64 gp) (icl : I64 cl) (isq : I64 sq) (ikd : I64 kd) (ici : I64 ci) (iir : I64 ir) (ibt : I64 bt) (isi : I64 si) (iq1 : I64 q1) (iq2 : I64 q2) (iq3 : I64 q3) (iq4 : I64 q4) (iq5 : I64 q5) (iq6 : I64 q6) (iq7 : I64 q7) (in1 : I64 n1) (in2 : I64 n2) (in3 : I64 n3) (in4 : I64 n4) (in5 : I64 n5) (it1 : I64 t1) (it2 : I64 t2) (ic : I64 c) (im : I64 m) (iwk : I64 wk) (ist : I64 st) (ht : HoldsN w ta tn tc tk) (hx : ∀ x ∈ tk, I64 x) :
    Calls Try.prog 12 #[.agg #[.int .i64 gp, .int .i64 cl, .int .i64 sq, .int .i64 kd, .int .i64 ci, .int .i64 ir, .int .i64 bt, .int .i64 si, .int .i64 q1, .int .i64 q2, .int .i64 q3, .int .i64 q4, .int .i64 q5, .int .i64 q6, .int .i64 q7, .int .i64 n1, .int .i64 n2, .int .i64 n3, .int .i64 n4, .int .i64 n5, .int .i64 t1, .int .i64 t2, .int .i64 c, .int .i64 m, .int .i64 wk, .slice ta tn tc, .int .i64 st]] w fun e w' => ∃ v, e = .returned (.tuple #[v, .int .i64 (encE tn kd)]) ∧ (encE tn kd = 0 → Own w.heap.size w' v (entZ gp cl sq (cmdZ kd ci ir bt si (bytesZ [q1, q2, q3, q4, q5, q6, q7]) (bytesZ [n1, n2, n3, n4, n5]) (taskZ t1 t2 c m wk tk st))).length (entZ gp cl sq (cmdZ kd ci ir bt si (bytesZ [q1, q2, q3, q4, q5, q6, q7]) (bytesZ [n1, n2, n3, n4, n5]) (taskZ t1 t2 c m wk tk st)))) ∧ (encE tn kd ≠ 0 → v = .slice none 0 0) ∧ Below w.heap.size w w' := by
  go_enter Try.func12, Try.ntmps12
  go_upto_region 1 with fail
  have B0 := (Below.refl w.heap.size w).alloc (Nat.le_refl _) (.cells #[.int .i64 gp, .int .i64 cl, .int .i64 sq, .int .i64 kd, .int .i64 ci, .int .i64 ir, .int .i64 bt, .int .i64 si, .int .i64 q1, .int .i64 q2, .int .i64 q3, .int .i64 q4, .int .i64 q5, .int .i64 q6, .int .i64 q7, .int .i64 n1, .int .i64 n2, .int .i64 n3, .int .i64 n4, .int .i64 n5, .int .i64 t1, .int .i64 t2, .int .i64 c, .int .i64 m, .int .i64 wk, .slice ta tn tc, .int .i64 st] 34)
  have T := hid (ht.below B0)
  have BX := hid (Box.alloc w #[.int .i64 gp, .int .i64 cl, .int .i64 sq, .int .i64 kd, .int .i64 ci, .int .i64 ir, .int .i64 bt, .int .i64 si, .int .i64 q1, .int .i64 q2, .int .i64 q3, .int .i64 q4, .int .i64 q5, .int .i64 q6, .int .i64 q7, .int .i64 n1, .int .i64 n2, .int .i64 n3, .int .i64 n4, .int .i64 n5, .int .i64 t1, .int .i64 t2, .int .i64 c, .int .i64 m, .int .i64 wk, .slice ta tn tc, .int .i64 st] (34))
  have HX := hid hx
  have hz : (w.alloc (.cells #[.int .i64 gp, .int .i64 cl, .int .i64 sq, .int .i64 kd, .int .i64 ci, .int .i64 ir, .int .i64 bt, .int .i64 si, .int .i64 q1, .int .i64 q2, .int .i64 q3, .int .i64 q4, .int .i64 q5, .int .i64 q6, .int .i64 q7, .int .i64 n1, .int .i64 n2, .int .i64 n3, .int .i64 n4, .int .i64 n5, .int .i64 t1, .int .i64 t2, .int .i64 c, .int .i64 m, .int .i64 wk, .slice ta tn tc, .int .i64 st] 34)).heap.size = w.heap.size + 1 := by simp
  clear ht hx
  generalize hW : (w.alloc (.cells #[.int .i64 gp, .int .i64 cl, .int .i64 sq, .int .i64 kd, .int .i64 ci, .int .i64 ir, .int .i64 bt, .int .i64 si, .int .i64 q1, .int .i64 q2, .int .i64 q3, .int .i64 q4, .int .i64 q5, .int .i64 q6, .int .i64 q7, .int .i64 n1, .int .i64 n2, .int .i64 n3, .int .i64 n4, .int .i64 n5, .int .i64 t1, .int .i64 t2, .int .i64 c, .int .i64 m, .int .i64 wk, .slice ta tn tc, .int .i64 st] 34)) = W0 at *
  clear hW
  have C1 := hid (encode_any gp cl sq kd ci ir bt si q1 q2 q3 q4 q5 q6 q7 n1 n2 n3 n4 n5 t1 t2 c m wk ta tn tc tk st W0 igp icl isq ikd ici iir ibt isi iq1 iq2 iq3 iq4 iq5 iq6 iq7 in1 in2 in3 in4 in5 it1 it2 ic im iwk ist T.out HX.out)
  have LD := hid (run_loadAt_mid (P := Try.prog) W0 w.heap.size 0 34 [.int .i64 gp, .int .i64 cl, .int .i64 sq, .int .i64 kd, .int .i64 ci, .int .i64 ir, .int .i64 bt, .int .i64 si, .int .i64 q1, .int .i64 q2, .int .i64 q3, .int .i64 q4, .int .i64 q5, .int .i64 q6, .int .i64 q7, .int .i64 n1, .int .i64 n2, .int .i64 n3, .int .i64 n4, .int .i64 n5, .int .i64 t1, .int .i64 t2, .int .i64 c, .int .i64 m, .int .i64 wk, .slice ta tn tc, .int .i64 st] _ (BX.out.range 0 [.int .i64 gp, .int .i64 cl, .int .i64 sq, .int .i64 kd, .int .i64 ci, .int .i64 ir, .int .i64 bt, .int .i64 si, .int .i64 q1, .int .i64 q2, .int .i64 q3, .int .i64 q4, .int .i64 q5, .int .i64 q6, .int .i64 q7, .int .i64 n1, .int .i64 n2, .int .i64 n3, .int .i64 n4, .int .i64 n5, .int .i64 t1, .int .i64 t2, .int .i64 c, .int .i64 m, .int .i64 wk, .slice ta tn tc, .int .i64 st] rfl) Try.underlying34 rfl sizeEnt)
  go_wp2_with (refine wpList_load_at 34 rfl (.tmp 1) rfl _ _ rfl _ LD.out ?_)
  with_reducible refine C1.out.mono ?_
  rintro e W1 ⟨v1, rfl, h1, h2, h3⟩
  clear C1 LD T BX HX
  go_wp2_with fail
  refine bodyPost_ret (v := .tuple #[v1, .int .i64 (encE tn kd)]) (by simp [results, Try.results12, go_sem]) rfl ⟨_, rfl, fun h => (h1 h).base (by omega), h2, B0.trans (h3.mono (by omega))⟩
end Go.Proofs.Ytkjglpgjflkmbaa
