/-
  Contracts of command: the writer's methods.
-/
import Derived.Test.YtkjglpgjflkmbaaCB
namespace Go.Proofs.Ytkjglpgjflkmbaa
open Go.RowKit Go.Deep
set_option linter.unusedVariables false
set_option linter.unusedSimpArgs false

theorem bytesZ_len' (xs : List Int) : (bytesZ xs).length = (bytesZ xs).length := rfl
theorem ints_lit (p : Nat) (xs : List Int) (W : World) (v : Value) (l : List Int) (lg bz : Bool) (h : Wr W p v l lg bz) (cs : Array Value) (hcs : cs.toList = xs.flatMap encN) (n : Nat) (hn : xs.length = n) (hxl : n ≤ 64) (hx : ∀ x ∈ xs, I64 x) (hm : l.length + 9 * n ≤ 140737488355328) :
    Calls Try.prog 67 #[.pointer (some ⟨p, 0, none⟩), .slice (some ⟨W.heap.size, 0, none⟩) n n] (W.alloc (.cells cs 3)) fun e w' => (∃ r, e = .returned r) ∧ ∃ v', Wr w' p v' (l ++ bytesZ xs) lg bz ∧ WK p v W w' v' := by
  subst hn
  have ba := (Below.refl W.heap.size W).alloc (Nat.le_refl _) (.cells cs 3)
  refine (cints_any p W.heap.size 0 xs.length xs (W.alloc (.cells cs 3)) v l lg bz (h.below ba) ⟨rfl, Nat.le_refl _, by omega, (fun h => by cases h), fun _ => ⟨W.heap.size, 0, rfl, by simp, fun j x hx i u hu => ?_⟩⟩ (Nat.ne_of_gt h.lt) (fun e => by have := h.row _ e; omega) hx hm).mono ?_
  · rw [Nat.zero_add, cell_of_row _ W.heap.size _ cs _ (0, 0) (heap_alloc_new W _), ← Array.getElem?_toList, hcs]
    exact flat_get encN_len xs j x i u hx hu
  · rintro e w' ⟨hr, v', h1, h2⟩
    exact ⟨hr, v', h1, (WK.of_below ba).trans h2⟩

theorem ints64_lit (p : Nat) (xs : List Int) (W : World) (v : Value) (l : List Int) (lg bz : Bool) (h : Wr W p v l lg bz) (cs : Array Value) (hcs : cs.toList = xs.flatMap encN) (n : Nat) (hn : xs.length = n) (hxl : n ≤ 64) (hx : ∀ x ∈ xs, I64 x) (hm : l.length + 9 * n ≤ 140737488355328) :
    Calls Try.prog 66 #[.pointer (some ⟨p, 0, none⟩), .slice (some ⟨W.heap.size, 0, none⟩) n n] (W.alloc (.cells cs 2)) fun e w' => (∃ r, e = .returned r) ∧ ∃ v', Wr w' p v' (l ++ bytesZ xs) lg bz ∧ WK p v W w' v' := by
  subst hn
  have ba := (Below.refl W.heap.size W).alloc (Nat.le_refl _) (.cells cs 2)
  refine (cints64_any p W.heap.size 0 xs.length xs (W.alloc (.cells cs 2)) v l lg bz (h.below ba) ⟨rfl, Nat.le_refl _, by omega, (fun h => by cases h), fun _ => ⟨W.heap.size, 0, rfl, by simp, fun j x hx i u hu => ?_⟩⟩ (Nat.ne_of_gt h.lt) (fun e => by have := h.row _ e; omega) hx hm).mono ?_
  · rw [Nat.zero_add, cell_of_row _ W.heap.size _ cs _ (0, 0) (heap_alloc_new W _), ← Array.getElem?_toList, hcs]
    exact flat_get encN_len xs j x i u hx hu
  · rintro e w' ⟨hr, v', h1, h2⟩
    exact ⟨hr, v', h1, (WK.of_below ba).trans h2⟩

theorem errs_lit (p : Nat) (xs : List Int) (W : World) (v : Value) (l : List Int) (lg bz : Bool) (h : Wr W p v l lg bz) (cs : Array Value) (hcs : cs.toList = xs.flatMap encN) (n : Nat) (hn : xs.length = n) (hxl : n ≤ 64) (hx : ∀ x ∈ xs, I64 x) (hm : l.length + 9 * n ≤ 140737488355328) :
    Calls Try.prog 70 #[.pointer (some ⟨p, 0, none⟩), .slice (some ⟨W.heap.size, 0, none⟩) n n] (W.alloc (.cells cs 38)) fun e w' => (∃ r, e = .returned r) ∧ ∃ v', Wr w' p v' (l ++ bytesZ xs) lg bz ∧ WK p v W w' v' := by
  subst hn
  have ba := (Below.refl W.heap.size W).alloc (Nat.le_refl _) (.cells cs 38)
  refine (cerrs_any p W.heap.size 0 xs.length xs (W.alloc (.cells cs 38)) v l lg bz (h.below ba) ⟨rfl, Nat.le_refl _, by omega, (fun h => by cases h), fun _ => ⟨W.heap.size, 0, rfl, by simp, fun j x hx i u hu => ?_⟩⟩ (Nat.ne_of_gt h.lt) (fun e => by have := h.row _ e; omega) hx hm).mono ?_
  · rw [Nat.zero_add, cell_of_row _ W.heap.size _ cs _ (0, 0) (heap_alloc_new W _), ← Array.getElem?_toList, hcs]
    exact flat_get encN_len xs j x i u hx hu
  · rintro e w' ⟨hr, v', h1, h2⟩
    exact ⟨hr, v', h1, (WK.of_below ba).trans h2⟩

set_option maxRecDepth 100000 in
set_option maxHeartbeats 4000000 in
theorem cint_any (p : Nat) (x : Int) (w : World) (v : Value) (l : List Int) (lg bz : Bool) (h : Wr w p v l lg bz) (ix : I64 x) (hm : l.length + 9 ≤ 140737488355328) :
    Calls Try.prog 72 #[.pointer (some ⟨p, 0, none⟩), .int .i64 x] w fun e w' => (∃ r, e = .returned r) ∧ ∃ v', Wr w' p v' (l ++ numB (zig x)) lg bz ∧ WK p v w w' v' := by
  have HW := hid h
  have HP := h.lt
  have HRO := h.row
  clear h
  go_enter Try.func72, Try.ntmps72
  have K0 : Hid (WK p v w w v) := WK.refl _ _ _
  have H0 := HW
  have C1 := hid (ints_lit p [x] w v l _ _ H0.out #[.int .i64 x] rfl 1 rfl (by decide) (by intro x hx; simp only [List.mem_cons, List.not_mem_nil, or_false] at hx; rcases hx with rfl <;> assumption) (by omega))
  go_wp2_with fail
  with_reducible refine C1.out.mono ?_
  rintro e W1 ⟨⟨r1, rfl⟩, v1, h1, k1⟩
  have H1 := hid h1
  have K1 := hid (K0.out.trans k1)
  clear C1 h1 k1 H0 K0
  go_wp2_with fail
  go_end0
  exact ⟨⟨_, rfl⟩, _, by simpa [bytesZ, List.append_assoc] using H1.out, K1.out⟩

set_option maxRecDepth 100000 in
set_option maxHeartbeats 4000000 in
theorem cvec_any (p : Nat) (c m : Int) (w : World) (v : Value) (l : List Int) (lg bz : Bool) (h : Wr w p v l lg bz) (ic : I64 c) (im : I64 m) (hm : l.length + 18 ≤ 140737488355328) :
    Calls Try.prog 106 #[.pointer (some ⟨p, 0, none⟩), .agg #[.int .i64 c, .int .i64 m]] w fun e w' => (∃ r, e = .returned r) ∧ ∃ v', Wr w' p v' (l ++ bytesZ [c, m]) lg bz ∧ WK p v w w' v' := by
  have HW := hid h
  have HP := h.lt
  have HRO := h.row
  clear h
  go_enter Try.func106, Try.ntmps106
  go_upto_region 1 with fail
  have K0 : Hid (WK p v w (w.alloc (.cells #[.int .i64 c, .int .i64 m] 23)) v) := WK.of_below ((Below.refl _ w).alloc (Nat.le_refl _) _)
  have H0 := hid (HW.out.below ((Below.refl w.heap.size w).alloc (Nat.le_refl _) (.cells #[.int .i64 c, .int .i64 m] 23)))
  have y0 : (w.alloc (.cells #[.int .i64 c, .int .i64 m] 23)).cell? ⟨w.heap.size, 0, none⟩ = some (.int .i64 c) := by simp [go_sem]
  have y1 : (w.alloc (.cells #[.int .i64 c, .int .i64 m] 23)).cell? ⟨w.heap.size, 1, none⟩ = some (.int .i64 m) := by simp [go_sem]
  have NB0 : v.ownBlock ≠ some w.heap.size := fun e => by have := HRO _ e; omega
  have hQp : w.heap.size ≠ p := by omega
  have hQl : w.heap.size < (w.alloc (.cells #[.int .i64 c, .int .i64 m] 23)).heap.size := by simp
  clear HW HP HRO
  generalize (w.alloc (.cells #[.int .i64 c, .int .i64 m] 23)) = W0 at *
  generalize w.heap.size = QK at *
  have C1 := hid (ints64_lit p [c, m] W0 v l _ _ H0.out #[.int .i64 c, .int .i64 m] rfl 2 rfl (by decide) (by intro x hx; simp only [List.mem_cons, List.not_mem_nil, or_false] at hx; rcases hx with rfl | rfl <;> assumption) (by omega))
  go_wp2_with fail
  with_reducible refine C1.out.mono ?_
  rintro e W1 ⟨⟨r1, rfl⟩, v1, h1, k1⟩
  replace y0 := k1.cell y0 hQp NB0
  replace y1 := k1.cell y1 hQp NB0
  have hQl1 := Nat.lt_of_lt_of_le hQl k1.size
  have NB1 : v1.ownBlock ≠ some QK := fun e => by rcases k1.row _ e with e | e; exact NB0 e; have := hQl; omega
  have H1 := hid h1
  have K1 := hid (K0.out.trans k1)
  clear C1 h1 k1 H0 K0
  go_wp2_with fail
  go_end0
  exact ⟨⟨_, rfl⟩, _, by simpa [bytesZ, List.append_assoc] using H1.out, K1.out⟩

set_option maxRecDepth 100000 in
set_option maxHeartbeats 4000000 in
theorem cqueue_any (p : Nat) (q1 q2 q3 q4 q5 q6 q7 : Int) (w : World) (v : Value) (l : List Int) (lg bz : Bool) (h : Wr w p v l lg bz) (iq1 : I64 q1) (iq2 : I64 q2) (iq3 : I64 q3) (iq4 : I64 q4) (iq5 : I64 q5) (iq6 : I64 q6) (iq7 : I64 q7) (hm : l.length + 63 ≤ 140737488355328) :
    Calls Try.prog 77 #[.pointer (some ⟨p, 0, none⟩), .agg #[.int .i64 q1, .int .i64 q2, .int .i64 q3, .int .i64 q4, .int .i64 q5, .int .i64 q6, .int .i64 q7]] w fun e w' => (∃ r, e = .returned r) ∧ ∃ v', Wr w' p v' (l ++ bytesZ [q1, q2, q3, q4, q5, q6, q7]) lg bz ∧ WK p v w w' v' := by
  have HW := hid h
  have HP := h.lt
  have HRO := h.row
  clear h
  go_enter Try.func77, Try.ntmps77
  go_upto_region 1 with fail
  have K0 : Hid (WK p v w (w.alloc (.cells #[.int .i64 q1, .int .i64 q2, .int .i64 q3, .int .i64 q4, .int .i64 q5, .int .i64 q6, .int .i64 q7] 25)) v) := WK.of_below ((Below.refl _ w).alloc (Nat.le_refl _) _)
  have H0 := hid (HW.out.below ((Below.refl w.heap.size w).alloc (Nat.le_refl _) (.cells #[.int .i64 q1, .int .i64 q2, .int .i64 q3, .int .i64 q4, .int .i64 q5, .int .i64 q6, .int .i64 q7] 25)))
  have y0 : (w.alloc (.cells #[.int .i64 q1, .int .i64 q2, .int .i64 q3, .int .i64 q4, .int .i64 q5, .int .i64 q6, .int .i64 q7] 25)).cell? ⟨w.heap.size, 0, none⟩ = some (.int .i64 q1) := by simp [go_sem]
  have y1 : (w.alloc (.cells #[.int .i64 q1, .int .i64 q2, .int .i64 q3, .int .i64 q4, .int .i64 q5, .int .i64 q6, .int .i64 q7] 25)).cell? ⟨w.heap.size, 1, none⟩ = some (.int .i64 q2) := by simp [go_sem]
  have y2 : (w.alloc (.cells #[.int .i64 q1, .int .i64 q2, .int .i64 q3, .int .i64 q4, .int .i64 q5, .int .i64 q6, .int .i64 q7] 25)).cell? ⟨w.heap.size, 2, none⟩ = some (.int .i64 q3) := by simp [go_sem]
  have y3 : (w.alloc (.cells #[.int .i64 q1, .int .i64 q2, .int .i64 q3, .int .i64 q4, .int .i64 q5, .int .i64 q6, .int .i64 q7] 25)).cell? ⟨w.heap.size, 3, none⟩ = some (.int .i64 q4) := by simp [go_sem]
  have y4 : (w.alloc (.cells #[.int .i64 q1, .int .i64 q2, .int .i64 q3, .int .i64 q4, .int .i64 q5, .int .i64 q6, .int .i64 q7] 25)).cell? ⟨w.heap.size, 4, none⟩ = some (.int .i64 q5) := by simp [go_sem]
  have y5 : (w.alloc (.cells #[.int .i64 q1, .int .i64 q2, .int .i64 q3, .int .i64 q4, .int .i64 q5, .int .i64 q6, .int .i64 q7] 25)).cell? ⟨w.heap.size, 5, none⟩ = some (.int .i64 q6) := by simp [go_sem]
  have y6 : (w.alloc (.cells #[.int .i64 q1, .int .i64 q2, .int .i64 q3, .int .i64 q4, .int .i64 q5, .int .i64 q6, .int .i64 q7] 25)).cell? ⟨w.heap.size, 6, none⟩ = some (.int .i64 q7) := by simp [go_sem]
  have NB0 : v.ownBlock ≠ some w.heap.size := fun e => by have := HRO _ e; omega
  have hQp : w.heap.size ≠ p := by omega
  have hQl : w.heap.size < (w.alloc (.cells #[.int .i64 q1, .int .i64 q2, .int .i64 q3, .int .i64 q4, .int .i64 q5, .int .i64 q6, .int .i64 q7] 25)).heap.size := by simp
  clear HW HP HRO
  generalize (w.alloc (.cells #[.int .i64 q1, .int .i64 q2, .int .i64 q3, .int .i64 q4, .int .i64 q5, .int .i64 q6, .int .i64 q7] 25)) = W0 at *
  generalize w.heap.size = QK at *
  have C1 := hid (ints_lit p [q1, q2] W0 v l _ _ H0.out #[.int .i64 q1, .int .i64 q2] rfl 2 rfl (by decide) (by intro x hx; simp only [List.mem_cons, List.not_mem_nil, or_false] at hx; rcases hx with rfl | rfl <;> assumption) (by omega))
  go_wp2_with fail
  with_reducible refine C1.out.mono ?_
  rintro e W1 ⟨⟨r1, rfl⟩, v1, h1, k1⟩
  replace y0 := k1.cell y0 hQp NB0
  replace y1 := k1.cell y1 hQp NB0
  replace y2 := k1.cell y2 hQp NB0
  replace y3 := k1.cell y3 hQp NB0
  replace y4 := k1.cell y4 hQp NB0
  replace y5 := k1.cell y5 hQp NB0
  replace y6 := k1.cell y6 hQp NB0
  have hQl1 := Nat.lt_of_lt_of_le hQl k1.size
  have NB1 : v1.ownBlock ≠ some QK := fun e => by rcases k1.row _ e with e | e; exact NB0 e; have := hQl; omega
  have H1 := hid h1
  have K1 := hid (K0.out.trans k1)
  clear C1 h1 k1 H0 K0
  have C2 := hid (ints64_lit p [q3] W1 v1 (l ++ bytesZ [q1, q2]) _ _ H1.out #[.int .i64 q3] rfl 1 rfl (by decide) (by intro x hx; simp only [List.mem_cons, List.not_mem_nil, or_false] at hx; rcases hx with rfl <;> assumption) (by have b0 := bytesZ_len [q1, q2]; simp only [List.length_append, List.length_cons, List.length_nil] at *; omega))
  go_wp2_with fail
  with_reducible refine C2.out.mono ?_
  rintro e W2 ⟨⟨r2, rfl⟩, v2, h2, k2⟩
  replace y0 := k2.cell y0 hQp NB1
  replace y1 := k2.cell y1 hQp NB1
  replace y2 := k2.cell y2 hQp NB1
  replace y3 := k2.cell y3 hQp NB1
  replace y4 := k2.cell y4 hQp NB1
  replace y5 := k2.cell y5 hQp NB1
  replace y6 := k2.cell y6 hQp NB1
  have hQl2 := Nat.lt_of_lt_of_le hQl1 k2.size
  have NB2 : v2.ownBlock ≠ some QK := fun e => by rcases k2.row _ e with e | e; exact NB1 e; have := hQl1; omega
  have H2 := hid h2
  have K2 := hid (K1.out.trans k2)
  clear C2 h2 k2 H1 K1
  have C3 := hid (cvec_any p q4 q5 W2 v2 ((l ++ bytesZ [q1, q2]) ++ bytesZ [q3]) _ _ H2.out iq4 iq5 (by have b0 := bytesZ_len [q1, q2]; have b1 := bytesZ_len [q3]; simp only [List.length_append, List.length_cons, List.length_nil] at *; omega))
  go_wp2_with fail
  with_reducible refine C3.out.mono ?_
  rintro e W3 ⟨⟨r3, rfl⟩, v3, h3, k3⟩
  replace y0 := k3.cell y0 hQp NB2
  replace y1 := k3.cell y1 hQp NB2
  replace y2 := k3.cell y2 hQp NB2
  replace y3 := k3.cell y3 hQp NB2
  replace y4 := k3.cell y4 hQp NB2
  replace y5 := k3.cell y5 hQp NB2
  replace y6 := k3.cell y6 hQp NB2
  have hQl3 := Nat.lt_of_lt_of_le hQl2 k3.size
  have NB3 : v3.ownBlock ≠ some QK := fun e => by rcases k3.row _ e with e | e; exact NB2 e; have := hQl2; omega
  have H3 := hid h3
  have K3 := hid (K2.out.trans k3)
  clear C3 h3 k3 H2 K2
  have C4 := hid (cvec_any p q6 q7 W3 v3 (((l ++ bytesZ [q1, q2]) ++ bytesZ [q3]) ++ bytesZ [q4, q5]) _ _ H3.out iq6 iq7 (by have b0 := bytesZ_len [q1, q2]; have b1 := bytesZ_len [q3]; have b2 := bytesZ_len [q4, q5]; simp only [List.length_append, List.length_cons, List.length_nil] at *; omega))
  go_wp2_with fail
  with_reducible refine C4.out.mono ?_
  rintro e W4 ⟨⟨r4, rfl⟩, v4, h4, k4⟩
  replace y0 := k4.cell y0 hQp NB3
  replace y1 := k4.cell y1 hQp NB3
  replace y2 := k4.cell y2 hQp NB3
  replace y3 := k4.cell y3 hQp NB3
  replace y4 := k4.cell y4 hQp NB3
  replace y5 := k4.cell y5 hQp NB3
  replace y6 := k4.cell y6 hQp NB3
  have hQl4 := Nat.lt_of_lt_of_le hQl3 k4.size
  have NB4 : v4.ownBlock ≠ some QK := fun e => by rcases k4.row _ e with e | e; exact NB3 e; have := hQl3; omega
  have H4 := hid h4
  have K4 := hid (K3.out.trans k4)
  clear C4 h4 k4 H3 K3
  go_wp2_with fail
  go_end0
  exact ⟨⟨_, rfl⟩, _, by simpa [bytesZ, List.append_assoc] using H4.out, K4.out⟩

set_option maxRecDepth 100000 in
set_option maxHeartbeats 4000000 in
theorem cnode_any (p : Nat) (n1 n2 n3 n4 n5 : Int) (w : World) (v : Value) (l : List Int) (lg bz : Bool) (h : Wr w p v l lg bz) (in1 : I64 n1) (in2 : I64 n2) (in3 : I64 n3) (in4 : I64 n4) (in5 : I64 n5) (hm : l.length + 45 ≤ 140737488355328) :
    Calls Try.prog 79 #[.pointer (some ⟨p, 0, none⟩), .agg #[.int .i64 n1, .int .i64 n2, .int .i64 n3, .int .i64 n4, .int .i64 n5]] w fun e w' => (∃ r, e = .returned r) ∧ ∃ v', Wr w' p v' (l ++ bytesZ [n1, n2, n3, n4, n5]) lg bz ∧ WK p v w w' v' := by
  have HW := hid h
  have HP := h.lt
  have HRO := h.row
  clear h
  go_enter Try.func79, Try.ntmps79
  go_upto_region 1 with fail
  have K0 : Hid (WK p v w (w.alloc (.cells #[.int .i64 n1, .int .i64 n2, .int .i64 n3, .int .i64 n4, .int .i64 n5] 27)) v) := WK.of_below ((Below.refl _ w).alloc (Nat.le_refl _) _)
  have H0 := hid (HW.out.below ((Below.refl w.heap.size w).alloc (Nat.le_refl _) (.cells #[.int .i64 n1, .int .i64 n2, .int .i64 n3, .int .i64 n4, .int .i64 n5] 27)))
  have y0 : (w.alloc (.cells #[.int .i64 n1, .int .i64 n2, .int .i64 n3, .int .i64 n4, .int .i64 n5] 27)).cell? ⟨w.heap.size, 0, none⟩ = some (.int .i64 n1) := by simp [go_sem]
  have y1 : (w.alloc (.cells #[.int .i64 n1, .int .i64 n2, .int .i64 n3, .int .i64 n4, .int .i64 n5] 27)).cell? ⟨w.heap.size, 1, none⟩ = some (.int .i64 n2) := by simp [go_sem]
  have y2 : (w.alloc (.cells #[.int .i64 n1, .int .i64 n2, .int .i64 n3, .int .i64 n4, .int .i64 n5] 27)).cell? ⟨w.heap.size, 2, none⟩ = some (.int .i64 n3) := by simp [go_sem]
  have y3 : (w.alloc (.cells #[.int .i64 n1, .int .i64 n2, .int .i64 n3, .int .i64 n4, .int .i64 n5] 27)).cell? ⟨w.heap.size, 3, none⟩ = some (.int .i64 n4) := by simp [go_sem]
  have y4 : (w.alloc (.cells #[.int .i64 n1, .int .i64 n2, .int .i64 n3, .int .i64 n4, .int .i64 n5] 27)).cell? ⟨w.heap.size, 4, none⟩ = some (.int .i64 n5) := by simp [go_sem]
  have NB0 : v.ownBlock ≠ some w.heap.size := fun e => by have := HRO _ e; omega
  have hQp : w.heap.size ≠ p := by omega
  have hQl : w.heap.size < (w.alloc (.cells #[.int .i64 n1, .int .i64 n2, .int .i64 n3, .int .i64 n4, .int .i64 n5] 27)).heap.size := by simp
  clear HW HP HRO
  generalize (w.alloc (.cells #[.int .i64 n1, .int .i64 n2, .int .i64 n3, .int .i64 n4, .int .i64 n5] 27)) = W0 at *
  generalize w.heap.size = QK at *
  have C1 := hid (ints_lit p [n1, n2] W0 v l _ _ H0.out #[.int .i64 n1, .int .i64 n2] rfl 2 rfl (by decide) (by intro x hx; simp only [List.mem_cons, List.not_mem_nil, or_false] at hx; rcases hx with rfl | rfl <;> assumption) (by omega))
  go_wp2_with fail
  with_reducible refine C1.out.mono ?_
  rintro e W1 ⟨⟨r1, rfl⟩, v1, h1, k1⟩
  replace y0 := k1.cell y0 hQp NB0
  replace y1 := k1.cell y1 hQp NB0
  replace y2 := k1.cell y2 hQp NB0
  replace y3 := k1.cell y3 hQp NB0
  replace y4 := k1.cell y4 hQp NB0
  have hQl1 := Nat.lt_of_lt_of_le hQl k1.size
  have NB1 : v1.ownBlock ≠ some QK := fun e => by rcases k1.row _ e with e | e; exact NB0 e; have := hQl; omega
  have H1 := hid h1
  have K1 := hid (K0.out.trans k1)
  clear C1 h1 k1 H0 K0
  have C2 := hid (ints64_lit p [n3] W1 v1 (l ++ bytesZ [n1, n2]) _ _ H1.out #[.int .i64 n3] rfl 1 rfl (by decide) (by intro x hx; simp only [List.mem_cons, List.not_mem_nil, or_false] at hx; rcases hx with rfl <;> assumption) (by have b0 := bytesZ_len [n1, n2]; simp only [List.length_append, List.length_cons, List.length_nil] at *; omega))
  go_wp2_with fail
  with_reducible refine C2.out.mono ?_
  rintro e W2 ⟨⟨r2, rfl⟩, v2, h2, k2⟩
  replace y0 := k2.cell y0 hQp NB1
  replace y1 := k2.cell y1 hQp NB1
  replace y2 := k2.cell y2 hQp NB1
  replace y3 := k2.cell y3 hQp NB1
  replace y4 := k2.cell y4 hQp NB1
  have hQl2 := Nat.lt_of_lt_of_le hQl1 k2.size
  have NB2 : v2.ownBlock ≠ some QK := fun e => by rcases k2.row _ e with e | e; exact NB1 e; have := hQl1; omega
  have H2 := hid h2
  have K2 := hid (K1.out.trans k2)
  clear C2 h2 k2 H1 K1
  have C3 := hid (ints_lit p [n4, n5] W2 v2 ((l ++ bytesZ [n1, n2]) ++ bytesZ [n3]) _ _ H2.out #[.int .i64 n4, .int .i64 n5] rfl 2 rfl (by decide) (by intro x hx; simp only [List.mem_cons, List.not_mem_nil, or_false] at hx; rcases hx with rfl | rfl <;> assumption) (by have b0 := bytesZ_len [n1, n2]; have b1 := bytesZ_len [n3]; simp only [List.length_append, List.length_cons, List.length_nil] at *; omega))
  go_wp2_with fail
  with_reducible refine C3.out.mono ?_
  rintro e W3 ⟨⟨r3, rfl⟩, v3, h3, k3⟩
  replace y0 := k3.cell y0 hQp NB2
  replace y1 := k3.cell y1 hQp NB2
  replace y2 := k3.cell y2 hQp NB2
  replace y3 := k3.cell y3 hQp NB2
  replace y4 := k3.cell y4 hQp NB2
  have hQl3 := Nat.lt_of_lt_of_le hQl2 k3.size
  have NB3 : v3.ownBlock ≠ some QK := fun e => by rcases k3.row _ e with e | e; exact NB2 e; have := hQl2; omega
  have H3 := hid h3
  have K3 := hid (K2.out.trans k3)
  clear C3 h3 k3 H2 K2
  go_wp2_with fail
  go_end0
  exact ⟨⟨_, rfl⟩, _, by simpa [bytesZ, List.append_assoc] using H3.out, K3.out⟩

end Go.Proofs.Ytkjglpgjflkmbaa
