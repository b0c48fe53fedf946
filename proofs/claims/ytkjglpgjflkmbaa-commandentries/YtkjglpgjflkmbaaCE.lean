/-
  Contracts of command: a task, a command, an entry are written.
-/
import Derived.Test.YtkjglpgjflkmbaaCD
namespace Go.Proofs.Ytkjglpgjflkmbaa
open Go.RowKit Go.Deep
set_option linter.unusedVariables false
set_option linter.unusedSimpArgs false

/-- What lies in a box of cells. -/
def Box (W : World) (Q : Nat) (cs : Array Value) : Prop := ∀ i x, cs[i]? = some x → W.cell? ⟨Q, i, none⟩ = some x
theorem Box.alloc (W : World) (cs : Array Value) (t : Nat) : Box (W.alloc (.cells cs t)) W.heap.size cs := by
  intro i x h
  simp [go_sem, h]
theorem Box.wk {p : Nat} {v v' : Value} {A B : World} {Q : Nat} {cs : Array Value} (h : Box A Q cs) (k : WK p v A B v') (h1 : Q ≠ p) (h2 : v.ownBlock ≠ some Q) : Box B Q cs :=
  fun i x e => k.cell (h i x e) h1 h2
/-- A task's bytes. -/
def taskZ (t1 t2 c m wk : Int) (tk : List Int) (st : Int) : List Int := bytesZ [t1, t2, c, m, wk] ++ (listZ tk ++ bytesZ [st])
theorem taskZ_len (t1 t2 c m wk : Int) (tk : List Int) (st : Int) : (taskZ t1 t2 c m wk tk st).length ≤ 9300 := by
  have h1 := bytesZ_len [t1, t2, c, m, wk]
  have h2 := bytesZ_len [st]
  have h3 := listZ_len tk
  unfold taskZ
  simp only [List.length_append, List.length_cons, List.length_nil] at *
  omega
/-- A command's bytes. -/
def cmdZ (kd ci ic bt si : Int) (qs ns ts : List Int) : List Int := kindZ kd ++ (bytesZ [ci, ic, bt, si] ++ (qs ++ (ns ++ ts)))
set_option maxRecDepth 100000 in
set_option maxHeartbeats 8000000 in
theorem ctask_any (p : Nat) (t1 t2 c m wk : Int) (ta : Option Addr) (tn tc : Nat) (tk : List Int) (st : Int) (w : World) (v : Value) (l : List Int) (lg bz : Bool) (h : Wr w p v l lg bz) (it1 : I64 t1) (it2 : I64 t2) (ic : I64 c) (im : I64 m) (iwk : I64 wk) (ist : I64 st) (ht : HoldsP p w ta tn tc tk) (hx : ∀ x ∈ tk, I64 x) (hm : l.length + 9400 ≤ 140737488355328) :
    Calls Try.prog 81 #[.pointer (some ⟨p, 0, none⟩), .agg #[.int .i64 t1, .int .i64 t2, .int .i64 c, .int .i64 m, .int .i64 wk, .slice ta tn tc, .int .i64 st]] w fun e w' => (∃ r, e = .returned r) ∧ ∃ v', Wr w' p v' (l ++ taskZ t1 t2 c m wk tk st) (lg || decide (1024 < tn)) bz ∧ WK p v w w' v' := by
  have HW := hid h
  have HP := h.lt
  have HRO := h.row
  have HX := hid hx
  go_enter Try.func81, Try.ntmps81
  go_upto_region 1 with fail
  have K0 : Hid (WK p v w (w.alloc (.cells #[.int .i64 t1, .int .i64 t2, .int .i64 c, .int .i64 m, .int .i64 wk, .slice ta tn tc, .int .i64 st] 30)) v) := WK.of_below ((Below.refl _ w).alloc (Nat.le_refl _) _)
  have H0 := hid (HW.out.below ((Below.refl w.heap.size w).alloc (Nat.le_refl _) (.cells #[.int .i64 t1, .int .i64 t2, .int .i64 c, .int .i64 m, .int .i64 wk, .slice ta tn tc, .int .i64 st] 30)))
  have T := hid (ht.wk K0.out (fun g e => (HRO g e).1))
  have BX := hid (Box.alloc w #[.int .i64 t1, .int .i64 t2, .int .i64 c, .int .i64 m, .int .i64 wk, .slice ta tn tc, .int .i64 st] (30))
  have NB0 : v.ownBlock ≠ some w.heap.size := fun e => by have := HRO _ e; omega
  have hQp : w.heap.size ≠ p := by omega
  have hQl : w.heap.size < (w.alloc (.cells #[.int .i64 t1, .int .i64 t2, .int .i64 c, .int .i64 m, .int .i64 wk, .slice ta tn tc, .int .i64 st] 30)).heap.size := by simp
  clear HW HP HRO h ht hx
  generalize (w.alloc (.cells #[.int .i64 t1, .int .i64 t2, .int .i64 c, .int .i64 m, .int .i64 wk, .slice ta tn tc, .int .i64 st] 30)) = W0 at *
  generalize w.heap.size = QK at *
  have C1 := hid (ints_lit p [t1, t2] W0 v l _ _ H0.out #[.int .i64 t1, .int .i64 t2] rfl 2 rfl (by decide) (by intro x hx; simp only [List.mem_cons, List.not_mem_nil, or_false] at hx; rcases hx with rfl | rfl <;> assumption) (by omega))
  have y0 := BX.out 0 (.int .i64 t1) rfl
  have y1 := BX.out 1 (.int .i64 t2) rfl
  go_wp2_with fail
  with_reducible refine C1.out.mono ?_
  clear y0 y1
  rintro e W1 ⟨⟨r1, rfl⟩, v1, h1, k1⟩
  replace BX := hid (BX.out.wk k1 hQp NB0)
  have hQl1 := Nat.lt_of_lt_of_le hQl k1.size
  have NB1 : v1.ownBlock ≠ some QK := fun e => by rcases k1.row _ e with e | e; exact NB0 e; have := hQl; omega
  replace T := hid (T.out.wk k1 (fun g e => (H0.out.row g e).1))
  have H1 := hid h1
  have K1 := hid (K0.out.trans k1)
  clear C1 h1 k1 H0 K0
  have C2 := hid (cvec_any p c m W1 v1 (l ++ bytesZ [t1, t2]) _ _ H1.out ic im (by have b0 := bytesZ_len [t1, t2]; simp only [List.length_append, List.length_cons, List.length_nil] at *; omega))
  have y2 := BX.out 2 (.int .i64 c) rfl
  have y3 := BX.out 3 (.int .i64 m) rfl
  go_wp2_with fail
  with_reducible refine C2.out.mono ?_
  clear y2 y3
  rintro e W2 ⟨⟨r2, rfl⟩, v2, h2, k2⟩
  replace BX := hid (BX.out.wk k2 hQp NB1)
  have hQl2 := Nat.lt_of_lt_of_le hQl1 k2.size
  have NB2 : v2.ownBlock ≠ some QK := fun e => by rcases k2.row _ e with e | e; exact NB1 e; have := hQl1; omega
  replace T := hid (T.out.wk k2 (fun g e => (H1.out.row g e).1))
  have H2 := hid h2
  have K2 := hid (K1.out.trans k2)
  clear C2 h2 k2 H1 K1
  have C3 := hid (ints_lit p [wk] W2 v2 ((l ++ bytesZ [t1, t2]) ++ bytesZ [c, m]) _ _ H2.out #[.int .i64 wk] rfl 1 rfl (by decide) (by intro x hx; simp only [List.mem_cons, List.not_mem_nil, or_false] at hx; rcases hx with rfl <;> assumption) (by have b0 := bytesZ_len [t1, t2]; have b1 := bytesZ_len [c, m]; simp only [List.length_append, List.length_cons, List.length_nil] at *; omega))
  have y4 := BX.out 4 (.int .i64 wk) rfl
  go_wp2_with fail
  with_reducible refine C3.out.mono ?_
  clear y4
  rintro e W3 ⟨⟨r3, rfl⟩, v3, h3, k3⟩
  replace BX := hid (BX.out.wk k3 hQp NB2)
  have hQl3 := Nat.lt_of_lt_of_le hQl2 k3.size
  have NB3 : v3.ownBlock ≠ some QK := fun e => by rcases k3.row _ e with e | e; exact NB2 e; have := hQl2; omega
  replace T := hid (T.out.wk k3 (fun g e => (H2.out.row g e).1))
  have H3 := hid h3
  have K3 := hid (K2.out.trans k3)
  clear C3 h3 k3 H2 K2
  have C4 := hid (clist_any p ta tn tc tk W3 v3 (((l ++ bytesZ [t1, t2]) ++ bytesZ [c, m]) ++ bytesZ [wk]) _ _ H3.out T.out HX.out (by have b0 := bytesZ_len [t1, t2]; have b1 := bytesZ_len [c, m]; have b2 := bytesZ_len [wk]; simp only [List.length_append, List.length_cons, List.length_nil] at *; omega))
  have y5 := BX.out 5 (.slice ta tn tc) rfl
  go_wp2_with fail
  with_reducible refine C4.out.mono ?_
  clear y5
  rintro e W4 ⟨⟨r4, rfl⟩, v4, h4, k4⟩
  replace BX := hid (BX.out.wk k4 hQp NB3)
  have hQl4 := Nat.lt_of_lt_of_le hQl3 k4.size
  have NB4 : v4.ownBlock ≠ some QK := fun e => by rcases k4.row _ e with e | e; exact NB3 e; have := hQl3; omega
  replace T := hid (T.out.wk k4 (fun g e => (H3.out.row g e).1))
  have H4 := hid h4
  have K4 := hid (K3.out.trans k4)
  clear C4 h4 k4 H3 K3
  have C5 := hid (ints_lit p [st] W4 v4 ((((l ++ bytesZ [t1, t2]) ++ bytesZ [c, m]) ++ bytesZ [wk]) ++ listZ tk) _ _ H4.out #[.int .i64 st] rfl 1 rfl (by decide) (by intro x hx; simp only [List.mem_cons, List.not_mem_nil, or_false] at hx; rcases hx with rfl <;> assumption) (by have b0 := bytesZ_len [t1, t2]; have b1 := bytesZ_len [c, m]; have b2 := bytesZ_len [wk]; have bt := listZ_len tk; simp only [List.length_append, List.length_cons, List.length_nil] at *; omega))
  have y6 := BX.out 6 (.int .i64 st) rfl
  go_wp2_with fail
  with_reducible refine C5.out.mono ?_
  clear y6
  rintro e W5 ⟨⟨r5, rfl⟩, v5, h5, k5⟩
  replace BX := hid (BX.out.wk k5 hQp NB4)
  have hQl5 := Nat.lt_of_lt_of_le hQl4 k5.size
  have NB5 : v5.ownBlock ≠ some QK := fun e => by rcases k5.row _ e with e | e; exact NB4 e; have := hQl4; omega
  replace T := hid (T.out.wk k5 (fun g e => (H4.out.row g e).1))
  have H5 := hid h5
  have K5 := hid (K4.out.trans k5)
  clear C5 h5 k5 H4 K4
  go_wp2_with fail
  first | go_end0 | (refine bodyPost_ret (results_none rfl _ _ _) rfl ?_)
  exact ⟨⟨_, rfl⟩, _, by simpa [taskZ, bytesZ, List.append_assoc] using H5.out, K5.out⟩

set_option maxRecDepth 100000 in
set_option maxHeartbeats 8000000 in
theorem ccommand_any (p : Nat) (kd ci ir bt si q1 q2 q3 q4 q5 q6 q7 n1 n2 n3 n4 n5 : Int) (t1 t2 c m wk : Int) (ta : Option Addr) (tn tc : Nat) (tk : List Int) (st : Int) (w : World) (v : Value) (l : List Int) (lg bz : Bool) (h : Wr w p v l lg bz) (ikd : I64 kd) (ici : I64 ci) (iir : I64 ir) (ibt : I64 bt) (isi : I64 si) (iq1 : I64 q1) (iq2 : I64 q2) (iq3 : I64 q3) (iq4 : I64 q4) (iq5 : I64 q5) (iq6 : I64 q6) (iq7 : I64 q7) (in1 : I64 n1) (in2 : I64 n2) (in3 : I64 n3) (in4 : I64 n4) (in5 : I64 n5) (it1 : I64 t1) (it2 : I64 t2) (ic : I64 c) (im : I64 m) (iwk : I64 wk) (ist : I64 st) (ht : HoldsP p w ta tn tc tk) (hx : ∀ x ∈ tk, I64 x) (hm : l.length + 9700 ≤ 140737488355328) :
    Calls Try.prog 68 #[.pointer (some ⟨p, 0, none⟩), .agg #[.int .i64 kd, .int .i64 ci, .int .i64 ir, .int .i64 bt, .int .i64 si, .int .i64 q1, .int .i64 q2, .int .i64 q3, .int .i64 q4, .int .i64 q5, .int .i64 q6, .int .i64 q7, .int .i64 n1, .int .i64 n2, .int .i64 n3, .int .i64 n4, .int .i64 n5, .int .i64 t1, .int .i64 t2, .int .i64 c, .int .i64 m, .int .i64 wk, .slice ta tn tc, .int .i64 st]] w fun e w' => (∃ r, e = .returned r) ∧ ∃ v', Wr w' p v' (l ++ cmdZ kd ci ir bt si (bytesZ [q1, q2, q3, q4, q5, q6, q7]) (bytesZ [n1, n2, n3, n4, n5]) (taskZ t1 t2 c m wk tk st)) (lg || decide (1024 < tn)) (bz || decide (kd < 0)) ∧ WK p v w w' v' := by
  have HW := hid h
  have HP := h.lt
  have HRO := h.row
  have HX := hid hx
  go_enter Try.func68, Try.ntmps68
  go_upto_region 1 with fail
  have K0 : Hid (WK p v w (w.alloc (.cells #[.int .i64 kd, .int .i64 ci, .int .i64 ir, .int .i64 bt, .int .i64 si, .int .i64 q1, .int .i64 q2, .int .i64 q3, .int .i64 q4, .int .i64 q5, .int .i64 q6, .int .i64 q7, .int .i64 n1, .int .i64 n2, .int .i64 n3, .int .i64 n4, .int .i64 n5, .int .i64 t1, .int .i64 t2, .int .i64 c, .int .i64 m, .int .i64 wk, .slice ta tn tc, .int .i64 st] 32)) v) := WK.of_below ((Below.refl _ w).alloc (Nat.le_refl _) _)
  have H0 := hid (HW.out.below ((Below.refl w.heap.size w).alloc (Nat.le_refl _) (.cells #[.int .i64 kd, .int .i64 ci, .int .i64 ir, .int .i64 bt, .int .i64 si, .int .i64 q1, .int .i64 q2, .int .i64 q3, .int .i64 q4, .int .i64 q5, .int .i64 q6, .int .i64 q7, .int .i64 n1, .int .i64 n2, .int .i64 n3, .int .i64 n4, .int .i64 n5, .int .i64 t1, .int .i64 t2, .int .i64 c, .int .i64 m, .int .i64 wk, .slice ta tn tc, .int .i64 st] 32)))
  have T := hid (ht.wk K0.out (fun g e => (HRO g e).1))
  have BX := hid (Box.alloc w #[.int .i64 kd, .int .i64 ci, .int .i64 ir, .int .i64 bt, .int .i64 si, .int .i64 q1, .int .i64 q2, .int .i64 q3, .int .i64 q4, .int .i64 q5, .int .i64 q6, .int .i64 q7, .int .i64 n1, .int .i64 n2, .int .i64 n3, .int .i64 n4, .int .i64 n5, .int .i64 t1, .int .i64 t2, .int .i64 c, .int .i64 m, .int .i64 wk, .slice ta tn tc, .int .i64 st] (32))
  have NB0 : v.ownBlock ≠ some w.heap.size := fun e => by have := HRO _ e; omega
  have hQp : w.heap.size ≠ p := by omega
  have hQl : w.heap.size < (w.alloc (.cells #[.int .i64 kd, .int .i64 ci, .int .i64 ir, .int .i64 bt, .int .i64 si, .int .i64 q1, .int .i64 q2, .int .i64 q3, .int .i64 q4, .int .i64 q5, .int .i64 q6, .int .i64 q7, .int .i64 n1, .int .i64 n2, .int .i64 n3, .int .i64 n4, .int .i64 n5, .int .i64 t1, .int .i64 t2, .int .i64 c, .int .i64 m, .int .i64 wk, .slice ta tn tc, .int .i64 st] 32)).heap.size := by simp
  clear HW HP HRO h ht hx
  generalize (w.alloc (.cells #[.int .i64 kd, .int .i64 ci, .int .i64 ir, .int .i64 bt, .int .i64 si, .int .i64 q1, .int .i64 q2, .int .i64 q3, .int .i64 q4, .int .i64 q5, .int .i64 q6, .int .i64 q7, .int .i64 n1, .int .i64 n2, .int .i64 n3, .int .i64 n4, .int .i64 n5, .int .i64 t1, .int .i64 t2, .int .i64 c, .int .i64 m, .int .i64 wk, .slice ta tn tc, .int .i64 st] 32)) = W0 at *
  generalize w.heap.size = QK at *
  have C1 := hid (ckind_any p kd W0 v l _ _ H0.out ikd (by omega))
  have y0 := BX.out 0 (.int .i64 kd) rfl
  go_wp2_with fail
  with_reducible refine C1.out.mono ?_
  clear y0
  rintro e W1 ⟨⟨r1, rfl⟩, v1, h1, k1⟩
  replace BX := hid (BX.out.wk k1 hQp NB0)
  have hQl1 := Nat.lt_of_lt_of_le hQl k1.size
  have NB1 : v1.ownBlock ≠ some QK := fun e => by rcases k1.row _ e with e | e; exact NB0 e; have := hQl; omega
  replace T := hid (T.out.wk k1 (fun g e => (H0.out.row g e).1))
  have H1 := hid h1
  have K1 := hid (K0.out.trans k1)
  clear C1 h1 k1 H0 K0
  have C2 := hid (ints_lit p [ci, ir, bt] W1 v1 (l ++ kindZ kd) _ _ H1.out #[.int .i64 ci, .int .i64 ir, .int .i64 bt] rfl 3 rfl (by decide) (by intro x hx; simp only [List.mem_cons, List.not_mem_nil, or_false] at hx; rcases hx with rfl | rfl | rfl <;> assumption) (by have bk := kindZ_len kd; simp only [List.length_append, List.length_cons, List.length_nil] at *; omega))
  have y1 := BX.out 1 (.int .i64 ci) rfl
  have y2 := BX.out 2 (.int .i64 ir) rfl
  have y3 := BX.out 3 (.int .i64 bt) rfl
  go_wp2_with fail
  with_reducible refine C2.out.mono ?_
  clear y1 y2 y3
  rintro e W2 ⟨⟨r2, rfl⟩, v2, h2, k2⟩
  replace BX := hid (BX.out.wk k2 hQp NB1)
  have hQl2 := Nat.lt_of_lt_of_le hQl1 k2.size
  have NB2 : v2.ownBlock ≠ some QK := fun e => by rcases k2.row _ e with e | e; exact NB1 e; have := hQl1; omega
  replace T := hid (T.out.wk k2 (fun g e => (H1.out.row g e).1))
  have H2 := hid h2
  have K2 := hid (K1.out.trans k2)
  clear C2 h2 k2 H1 K1
  have C3 := hid (ints64_lit p [si] W2 v2 ((l ++ kindZ kd) ++ bytesZ [ci, ir, bt]) _ _ H2.out #[.int .i64 si] rfl 1 rfl (by decide) (by intro x hx; simp only [List.mem_cons, List.not_mem_nil, or_false] at hx; rcases hx with rfl <;> assumption) (by have b0 := bytesZ_len [ci, ir, bt]; have bk := kindZ_len kd; simp only [List.length_append, List.length_cons, List.length_nil] at *; omega))
  have y4 := BX.out 4 (.int .i64 si) rfl
  go_wp2_with fail
  with_reducible refine C3.out.mono ?_
  clear y4
  rintro e W3 ⟨⟨r3, rfl⟩, v3, h3, k3⟩
  replace BX := hid (BX.out.wk k3 hQp NB2)
  have hQl3 := Nat.lt_of_lt_of_le hQl2 k3.size
  have NB3 : v3.ownBlock ≠ some QK := fun e => by rcases k3.row _ e with e | e; exact NB2 e; have := hQl2; omega
  replace T := hid (T.out.wk k3 (fun g e => (H2.out.row g e).1))
  have H3 := hid h3
  have K3 := hid (K2.out.trans k3)
  clear C3 h3 k3 H2 K2
  have C4 := hid (cqueue_any p q1 q2 q3 q4 q5 q6 q7 W3 v3 (((l ++ kindZ kd) ++ bytesZ [ci, ir, bt]) ++ bytesZ [si]) _ _ H3.out iq1 iq2 iq3 iq4 iq5 iq6 iq7 (by have b0 := bytesZ_len [ci, ir, bt]; have b1 := bytesZ_len [si]; have bk := kindZ_len kd; simp only [List.length_append, List.length_cons, List.length_nil] at *; omega))
  have y5 := BX.out 5 (.int .i64 q1) rfl
  have y6 := BX.out 6 (.int .i64 q2) rfl
  have y7 := BX.out 7 (.int .i64 q3) rfl
  have y8 := BX.out 8 (.int .i64 q4) rfl
  have y9 := BX.out 9 (.int .i64 q5) rfl
  have y10 := BX.out 10 (.int .i64 q6) rfl
  have y11 := BX.out 11 (.int .i64 q7) rfl
  go_wp2_with fail
  with_reducible refine C4.out.mono ?_
  clear y5 y6 y7 y8 y9 y10 y11
  rintro e W4 ⟨⟨r4, rfl⟩, v4, h4, k4⟩
  replace BX := hid (BX.out.wk k4 hQp NB3)
  have hQl4 := Nat.lt_of_lt_of_le hQl3 k4.size
  have NB4 : v4.ownBlock ≠ some QK := fun e => by rcases k4.row _ e with e | e; exact NB3 e; have := hQl3; omega
  replace T := hid (T.out.wk k4 (fun g e => (H3.out.row g e).1))
  have H4 := hid h4
  have K4 := hid (K3.out.trans k4)
  clear C4 h4 k4 H3 K3
  have C5 := hid (cnode_any p n1 n2 n3 n4 n5 W4 v4 ((((l ++ kindZ kd) ++ bytesZ [ci, ir, bt]) ++ bytesZ [si]) ++ bytesZ [q1, q2, q3, q4, q5, q6, q7]) _ _ H4.out in1 in2 in3 in4 in5 (by have b0 := bytesZ_len [ci, ir, bt]; have b1 := bytesZ_len [si]; have b2 := bytesZ_len [q1, q2, q3, q4, q5, q6, q7]; have bk := kindZ_len kd; simp only [List.length_append, List.length_cons, List.length_nil] at *; omega))
  have y12 := BX.out 12 (.int .i64 n1) rfl
  have y13 := BX.out 13 (.int .i64 n2) rfl
  have y14 := BX.out 14 (.int .i64 n3) rfl
  have y15 := BX.out 15 (.int .i64 n4) rfl
  have y16 := BX.out 16 (.int .i64 n5) rfl
  go_wp2_with fail
  with_reducible refine C5.out.mono ?_
  clear y12 y13 y14 y15 y16
  rintro e W5 ⟨⟨r5, rfl⟩, v5, h5, k5⟩
  replace BX := hid (BX.out.wk k5 hQp NB4)
  have hQl5 := Nat.lt_of_lt_of_le hQl4 k5.size
  have NB5 : v5.ownBlock ≠ some QK := fun e => by rcases k5.row _ e with e | e; exact NB4 e; have := hQl4; omega
  replace T := hid (T.out.wk k5 (fun g e => (H4.out.row g e).1))
  have H5 := hid h5
  have K5 := hid (K4.out.trans k5)
  clear C5 h5 k5 H4 K4
  have C6 := hid (ctask_any p t1 t2 c m wk ta tn tc tk st W5 v5 (((((l ++ kindZ kd) ++ bytesZ [ci, ir, bt]) ++ bytesZ [si]) ++ bytesZ [q1, q2, q3, q4, q5, q6, q7]) ++ bytesZ [n1, n2, n3, n4, n5]) _ _ H5.out it1 it2 ic im iwk ist T.out HX.out (by have b0 := bytesZ_len [ci, ir, bt]; have b1 := bytesZ_len [si]; have b2 := bytesZ_len [q1, q2, q3, q4, q5, q6, q7]; have b3 := bytesZ_len [n1, n2, n3, n4, n5]; have bk := kindZ_len kd; simp only [List.length_append, List.length_cons, List.length_nil] at *; omega))
  have y17 := BX.out 17 (.int .i64 t1) rfl
  have y18 := BX.out 18 (.int .i64 t2) rfl
  have y19 := BX.out 19 (.int .i64 c) rfl
  have y20 := BX.out 20 (.int .i64 m) rfl
  have y21 := BX.out 21 (.int .i64 wk) rfl
  have y22 := BX.out 22 (.slice ta tn tc) rfl
  have y23 := BX.out 23 (.int .i64 st) rfl
  go_wp2_with fail
  with_reducible refine C6.out.mono ?_
  clear y17 y18 y19 y20 y21 y22 y23
  rintro e W6 ⟨⟨r6, rfl⟩, v6, h6, k6⟩
  replace BX := hid (BX.out.wk k6 hQp NB5)
  have hQl6 := Nat.lt_of_lt_of_le hQl5 k6.size
  have NB6 : v6.ownBlock ≠ some QK := fun e => by rcases k6.row _ e with e | e; exact NB5 e; have := hQl5; omega
  replace T := hid (T.out.wk k6 (fun g e => (H5.out.row g e).1))
  have H6 := hid h6
  have K6 := hid (K5.out.trans k6)
  clear C6 h6 k6 H5 K5
  go_wp2_with fail
  first | go_end0 | (refine bodyPost_ret (results_none rfl _ _ _) rfl ?_)
  exact ⟨⟨_, rfl⟩, _, by simpa [cmdZ, bytesZ, List.append_assoc] using H6.out, K6.out⟩

end Go.Proofs.Ytkjglpgjflkmbaa
