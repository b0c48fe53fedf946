/-
  Contracts of furlongref10: a task's bytes.
-/
import Derived.Test.YtkjglpgjflkmbaaCI
namespace Go.Proofs.Ytkjglpgjflkmbaa
open Go.RowKit Go.Deep
set_option linter.unusedVariables false
set_option linter.unusedSimpArgs false

theorem Box.pk {v v' : Value} {A B : World} {Q : Nat} {cs : Array Value} (h : Box A Q cs) (k : PK v A B v') (h2 : v.ownBlock ≠ some Q) : Box B Q cs :=
  fun i x e => k.cell (h i x e) h2
theorem nilO (base : Nat) (w : World) : Own base w (.slice none 0 0) ([] : List Int).length [] := ⟨World.ownsRow_nil _ _ _ _, BB.nil⟩
theorem listZ_nums {xs : List Int} (h : xs.length ≤ 1024) : listZ xs = numsZ xs := by unfold listZ numsZ; rw [if_neg (by omega)]

set_option maxRecDepth 100000 in
set_option maxHeartbeats 8000000 in
theorem rtask_any (t1 t2 c m wk : Int) (ta : Option Addr) (tn tc : Nat) (tk : List Int) (st : Int) (w : World) (it1 : I64 t1) (it2 : I64 t2) (ic : I64 c) (im : I64 m) (iwk : I64 wk) (ist : I64 st) (ht : HoldsN w ta tn tc tk) (hx : ∀ x ∈ tk, I64 x) (htn : tn ≤ 1024) :
    Calls Try.prog 37 #[.agg #[.int .i64 t1, .int .i64 t2, .int .i64 c, .int .i64 m, .int .i64 wk, .slice ta tn tc, .int .i64 st]] w fun e w' => ∃ v, e = .returned v ∧ Own w.heap.size w' v (taskZ t1 t2 c m wk tk st).length (taskZ t1 t2 c m wk tk st) ∧ Below w.heap.size w w' := by
  have HT := hid ht
  have HX := hid hx
  have HN := hid ht.1
  have HZ : Hid (taskZ t1 t2 c m wk tk st = (bytesZ [t1, t2, c, m, wk] ++ numsZ tk) ++ bytesZ [st]) := by unfold Hid taskZ; rw [listZ_nums (by have := ht.1; omega), List.append_assoc]
  have b5 := bytesZ_len [t1, t2, c, m, wk]
  have b1 := bytesZ_len [st]
  have bn := numsZ_len tk
  have htl : tk.length ≤ 1024 := by have := ht.1; omega
  clear ht hx
  go_enter Try.func37, Try.ntmps37
  go_upto_region 1 with fail
  have B0 := hid ((Below.refl w.heap.size w).alloc (Nat.le_refl _) (.cells #[.int .i64 t1, .int .i64 t2, .int .i64 c, .int .i64 m, .int .i64 wk, .slice ta tn tc, .int .i64 st] 30))
  have BX := hid (Box.alloc w #[.int .i64 t1, .int .i64 t2, .int .i64 c, .int .i64 m, .int .i64 wk, .slice ta tn tc, .int .i64 st] (30))
  have hz : (w.alloc (.cells #[.int .i64 t1, .int .i64 t2, .int .i64 c, .int .i64 m, .int .i64 wk, .slice ta tn tc, .int .i64 st] 30)).heap.size = w.heap.size + 1 := by simp
  have Hz := hid hz
  clear hz
  generalize (w.alloc (.cells #[.int .i64 t1, .int .i64 t2, .int .i64 c, .int .i64 m, .int .i64 wk, .slice ta tn tc, .int .i64 st] 30)) = W0 at *
  have C1 := hid (put_lit (w.heap.size + 1) (.slice none 0 0) [] [t1, t2, c, m, wk] W0 (nilO _ _) (by rw [Hz.out]; exact Nat.le_refl _) #[.int .i64 t1, .int .i64 t2, .int .i64 c, .int .i64 m, .int .i64 wk] rfl 5 rfl (by decide) (by intro x hx; simp only [List.mem_cons, List.not_mem_nil, or_false] at hx; rcases hx with rfl | rfl | rfl | rfl | rfl <;> assumption) (by simp))
  have y0 := BX.out 0 (.int .i64 t1) rfl
  have y1 := BX.out 1 (.int .i64 t2) rfl
  have y2 := BX.out 2 (.int .i64 c) rfl
  have y3 := BX.out 3 (.int .i64 m) rfl
  have y4 := BX.out 4 (.int .i64 wk) rfl
  go_wp2_with fail
  with_reducible refine C1.out.mono ?_
  clear y0 y1 y2 y3 y4
  rintro e W1 ⟨v1, rfl, h1, k1⟩
  rw [List.nil_append] at h1
  replace BX := hid (BX.out.pk k1 (by intro e; cases e))
  have H1 := hid h1
  have B1 := hid (B0.out.trans (k1.below (base := w.heap.size) (by have := Hz.out; omega) (by intro g e; cases e)))
  have s1 : Hid (w.heap.size + 1 ≤ W1.heap.size) := by unfold Hid; have := k1.size; have := Hz.out; omega
  clear C1 h1 k1
  have C2 := hid (rnumbers_any ta tn tc tk W1 (HT.out.below B1.out) HX.out (by omega))
  have y5 := BX.out 5 (.slice ta tn tc) rfl
  go_wp2_with fail
  with_reducible refine C2.out.mono ?_
  clear y5
  rintro e W2 ⟨v2, rfl, h2, k2⟩
  have H2 := hid (H1.out.below' k2)
  replace BX := hid (BX.out.below k2)
  have B2 := hid (B1.out.trans (k2.mono (by have := s1.out; omega)))
  have s2 : Hid (w.heap.size + 1 ≤ W2.heap.size) := by unfold Hid; have := k2.size; have := s1.out; omega
  obtain ⟨ga, gc, rfl⟩ := h2.form
  have HB8 := hid h2.holds
  clear C2 h2 k2 H1 B1
  generalize hl1 : bytesZ [t1, t2, c, m, wk] = L1 at *
  generalize hl2 : numsZ tk = L2 at *
  generalize hl3 : bytesZ [st] = L3 at *
  have L3E := hid hl3
  clear hl1 hl2 hl3
  simp only [List.length_cons, List.length_nil] at b5 b1
  have n1 := hid b5
  have n2 : Hid (L2.length ≤ 9 + 9 * 1024) := by unfold Hid; omega
  clear b5 b1 bn htl
  generalize hc1 : L1.length = z1 at *
  generalize hc2 : L2.length = z2 at *
  have Z1 := hid hc1
  have Z2 := hid hc2
  clear hc1 hc2
  go_wp2_with (at_builtin; refine cat_grow W2 rfl (.tmp 18) (.tmp 21) rfl (w.heap.size + 1) z1 v1 L1 rfl H2.out s2.out ga z2 gc L2 rfl HB8.out (by have := n1.out; have := n2.out; omega) ?_)
  intro v3 W3 h3 k3
  have H3 : Hid (Own (w.heap.size + 1) W3 v3 (L1 ++ L2).length (L1 ++ L2)) := by unfold Hid; rw [List.length_append, Z1.out, Z2.out]; exact h3
  replace BX := hid (BX.out.pk k3 (fun e => by have := H2.out.1.lt _ e; omega))
  have B3 := hid (B2.out.trans (k3.below (base := w.heap.size) (by have := s2.out; omega) (fun g e => by have := H2.out.1.lt g e; omega)))
  have s3 : Hid (w.heap.size + 1 ≤ W3.heap.size) := by unfold Hid; have := k3.size; have := s2.out; omega
  clear h3 k3 H2 B2 HB8
  have C4 := hid (put_lit (w.heap.size + 1) v3 (L1 ++ L2) [st] W3 H3.out s3.out #[.int .i64 st] rfl 1 rfl (by decide) (by intro x hx; simp only [List.mem_cons, List.not_mem_nil, or_false] at hx; rcases hx with rfl <;> assumption) (by have := n1.out; have := n2.out; have := Z1.out; have := Z2.out; rw [List.length_append]; omega))
  have y6 := BX.out 6 (.int .i64 st) rfl
  go_wp2_with fail
  with_reducible refine C4.out.mono ?_
  clear y6
  rintro e W4 ⟨v4, rfl, h4, k4⟩
  have H4 := hid h4
  have B4 := hid (B3.out.trans (k4.below (base := w.heap.size) (by have := s3.out; omega) (fun g e => by have := H3.out.1.lt g e; omega)))
  clear C4 h4 k4
  go_wp2_with fail
  go_ret
  refine ⟨_, rfl, ?_, B4.out⟩
  rw [HZ.out, ← L3E.out]
  exact H4.out.base (by omega)
end Go.Proofs.Ytkjglpgjflkmbaa
