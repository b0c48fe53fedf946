/-
  Contracts of furlongref10: a literal's numbers, a count, a list of numbers, a queue's and a node's numbers.
-/
import Derived.Test.YtkjglpgjflkmbaaCH
namespace Go.Proofs.Ytkjglpgjflkmbaa
open Go.RowKit Go.Deep
set_option linter.unusedVariables false
set_option linter.unusedSimpArgs false

theorem lit64 (W : World) (xs : List Int) (cs : Array Value) (hcs : cs.toList = xs.flatMap encN) (n : Nat) (hn : xs.length = n) (hxl : n ≤ 64) : HoldsN (W.alloc (.cells cs 2)) (some ⟨W.heap.size, 0, none⟩) n n xs := by
  subst hn
  refine ⟨rfl, Nat.le_refl _, by omega, (fun h => by cases h), fun _ => ⟨W.heap.size, 0, rfl, by simp, fun j x hx i u hu => ?_⟩⟩
  rw [Nat.zero_add, cell_of_row _ W.heap.size _ cs _ (0, 0) (heap_alloc_new W _), ← Array.getElem?_toList, hcs]
  exact flat_get encN_len xs j x i u hx hu
theorem put_lit (base : Nat) (v0 : Value) (l0 xs : List Int) (W : World) (ho : Own base W v0 l0.length l0) (hb : base ≤ W.heap.size) (cs : Array Value) (hcs : cs.toList = xs.flatMap encN) (n : Nat) (hn : xs.length = n) (hxl : n ≤ 64) (hx : ∀ x ∈ xs, I64 x) (hm : l0.length + 9 * n ≤ 140737488355328) :
    Calls Try.prog 33 #[v0, .slice (some ⟨W.heap.size, 0, none⟩) n n] (W.alloc (.cells cs 2)) fun e w' => ∃ v', e = .returned v' ∧ Own base w' v' (l0 ++ bytesZ xs).length (l0 ++ bytesZ xs) ∧ PK v0 W w' v' := by
  have ba := (Below.refl W.heap.size W).alloc (Nat.le_refl _) (.cells cs 2)
  refine (put_any base v0 l0 _ n n xs _ (ho.below' ba) (by simp; omega) (lit64 W xs cs hcs n hn hxl) (fun b o e _ => by cases e; exact fun e2 => by have := ho.1.lt _ e2; omega) hx hm).mono ?_
  rintro e w' ⟨v', h1, h2, h3⟩
  exact ⟨v', h1, h2, (PK.of_below ba).trans h3⟩

set_option maxRecDepth 100000 in
set_option maxHeartbeats 4000000 in
theorem rcount_any (n : Nat) (w : World) (hn : (n : Int) ≤ 9223372036854775807) :
    Calls Try.prog 47 #[.int .i64 n] w fun e w' => ∃ v, e = .returned v ∧ Own w.heap.size w' v (1 + shelf (n : Int)) (numB (n : Int)) ∧ Below w.heap.size w w' := by
  have R := hid (rnum_any (n : Int) w (by omega) (by omega))
  go_enter Try.func47, Try.ntmps47
  go_wp2_with fail
  with_reducible refine R.out.mono ?_
  rintro e W1 ⟨v, rfl, h1, h2⟩
  go_wp2_with fail
  go_ret
  exact ⟨_, rfl, h1, h2⟩

/-- The bytes of a list of numbers. -/
def numsZ (xs : List Int) : List Int := numB (xs.length : Int) ++ bytesZ xs
theorem numsZ_len (xs : List Int) : (numsZ xs).length ≤ 9 + 9 * xs.length := by
  have h1 := bytesZ_len xs
  have h2 := shelf_le (xs.length : Int)
  unfold numsZ
  rw [List.length_append, numB_len]; omega
set_option maxRecDepth 100000 in
set_option maxHeartbeats 4000000 in
theorem rnumbers_any (ao : Option Addr) (n c : Nat) (xs : List Int) (w : World) (ha : HoldsN w ao n c xs) (hx : ∀ x ∈ xs, I64 x) (hm : 9 + 9 * n ≤ 140737488355328) :
    Calls Try.prog 42 #[.slice ao n c] w fun e w' => ∃ v, e = .returned v ∧ Own w.heap.size w' v (numsZ xs).length (numsZ xs) ∧ Below w.heap.size w w' := by
  have HA := hid ha
  have HX := hid hx
  have HN := hid ha.1
  have hcap := ha.2.1
  have hcm := ha.2.2.1
  have R := hid (rcount_any n w (by omega))
  have hnb9 : 1 + shelf (n : Int) ≤ 9 := by have := shelf_le (n : Int); omega
  have hnb := numB_len (n : Int)
  have HZ : Hid (numsZ xs = numB (n : Int) ++ bytesZ xs) := by unfold Hid numsZ; rw [HN.out]
  clear ha hx
  go_enter Try.func42, Try.ntmps42
  go_wp2_with fail
  with_reducible refine R.out.mono ?_
  rintro e w1 ⟨v, rfl, o1, b1⟩
  have HO := hid o1
  have HB := hid b1
  generalize numB (n : Int) = NB at *
  generalize hsz : 1 + shelf (n : Int) = z0 at *
  clear hsz o1 b1 R
  have hs1 := HB.out.size
  go_wp2_with fail
  go_loopw [3, 11] (fun v i wr => ∃ k : Nat, k ≤ n ∧ i = .int .i64 (k : Int) ∧ Hid (Own w.heap.size wr v (NB ++ bytesZ (xs.take k)).length (NB ++ bytesZ (xs.take k))) ∧ Hid (Below w.heap.size w wr)) (fun _ i _ => n - (intOf i).toNat)
  case atStart => exact ⟨0, by omega, rfl, by unfold Hid; simpa [bytesZ, hnb] using HO.out, HB.out⟩
  case round =>
    obtain ⟨k, hk, rfl, HW, K0⟩ := hrel
    by_cases hlt : k < n
    · have hlt' : k < xs.length := by rw [HN.out]; exact hlt
      obtain ⟨ab, ao', e, RI⟩ := (HA.out.below K0.out).rowN (by omega)
      cases e
      have c0 := RI k hlt
      have SN := hid (bytesZ_snoc hlt')
      have hbl := bytesZ_len (xs.take k)
      have hxk : I64 (xs[k]?.getD 0) := HX.out _ (by rw [List.getElem?_eq_getElem hlt']; exact List.getElem_mem hlt')
      have ka : (0 : Int) ≤ (k : Int) := by omega
      have kb : (k : Int) < (n : Int) := by omega
      have hl9 : (NB ++ bytesZ (xs.take k)).length + 9 ≤ 140737488355328 := by
        rw [List.length_append]
        rw [List.length_take] at hbl
        omega
      clear RI hbl
      generalize xs[k]?.getD 0 = x at *
      have LAY := hid (fun W => rwhole_any x W hxk)
      have hn9 : 1 + shelf (zig x) ≤ 9 := by have := shelf_le (zig x); omega
      have hnl := numB_len (zig x)
      clear hxk
      generalize hll : NB ++ bytesZ (xs.take k) = l at *
      have HLL := hid hll
      clear hll
      generalize numB (zig x) = BS at *
      generalize hsz : 1 + shelf (zig x) = z at *
      clear hsz
      go_wp2_with fail
      with_reducible refine (LAY.out _).mono ?_
      rintro e x1 ⟨g, rfl, o1, b1⟩
      have HR := hid (HW.out.below' b1)
      obtain ⟨ga, gc, rfl⟩ := o1.form
      have HB8 := hid o1.holds
      have KR := hid (K0.out.trans (b1.mono K0.out.size))
      have hbs := KR.out.size
      clear o1 b1 c0 HW K0
      go_wp2_with (at_builtin; refine cat_grow x1 rfl (.tmp 15) (.tmp 17) rfl w.heap.size l.length _ l rfl HR.out hbs ga z gc BS rfl HB8.out (by omega) ?_)
      intro v' w9 oo kk
      have OO := hid oo
      have KK := hid (KR.out.trans (kk.below hbs (fun g e => (HR.out.1.lt g e).1)))
      clear oo kk
      go_wp2_with fail
      refine ⟨⟨k + 1, by omega, by go_num, by rw [SN.out, ← List.append_assoc, HLL.out, List.length_append, hnl]; exact OO.out, KK.out⟩, ?_⟩
      simp [intOf]; omega
    · have : k = n := by omega
      subst this
      have kb : ¬ ((k : Int) < (k : Int)) := by omega
      have HT : Hid (xs.take k = xs) := by unfold Hid; rw [← HN.out]; exact List.take_length
      go_wp2_with fail
      go_ret
      rw [HT.out] at HW
      refine ⟨_, rfl, ?_, K0.out⟩
      have h := HW.out
      rw [← HZ.out] at h
      exact h
set_option maxRecDepth 100000 in
set_option maxHeartbeats 4000000 in
theorem rqueue_any (q1 q2 q3 q4 q5 q6 q7 : Int) (w : World) :
    Calls Try.prog 35 #[.agg #[.int .i64 q1, .int .i64 q2, .int .i64 q3, .int .i64 q4, .int .i64 q5, .int .i64 q6, .int .i64 q7]] w fun e w' => ∃ g, e = .returned (.slice (some ⟨g, 0, none⟩) 7 7) ∧ w.heap.size ≤ g ∧ HoldsN w' (some ⟨g, 0, none⟩) 7 7 [q1, q2, q3, q4, q5, q6, q7] ∧ Below w.heap.size w w' := by
  go_enter Try.func35, Try.ntmps35
  go_upto_region 1 with fail
  have B0 := hid ((Below.refl w.heap.size w).alloc (Nat.le_refl _) (.cells #[.int .i64 q1, .int .i64 q2, .int .i64 q3, .int .i64 q4, .int .i64 q5, .int .i64 q6, .int .i64 q7] 25))
  have BX := hid (Box.alloc w #[.int .i64 q1, .int .i64 q2, .int .i64 q3, .int .i64 q4, .int .i64 q5, .int .i64 q6, .int .i64 q7] (25))
  have hz : (w.alloc (.cells #[.int .i64 q1, .int .i64 q2, .int .i64 q3, .int .i64 q4, .int .i64 q5, .int .i64 q6, .int .i64 q7] 25)).heap.size = w.heap.size + 1 := by simp
  generalize (w.alloc (.cells #[.int .i64 q1, .int .i64 q2, .int .i64 q3, .int .i64 q4, .int .i64 q5, .int .i64 q6, .int .i64 q7] 25)) = W0 at *
  have y0 := BX.out 0 (.int .i64 q1) rfl
  have y1 := BX.out 1 (.int .i64 q2) rfl
  have y2 := BX.out 2 (.int .i64 q3) rfl
  have y3 := BX.out 3 (.int .i64 q4) rfl
  have y4 := BX.out 4 (.int .i64 q5) rfl
  have y5 := BX.out 5 (.int .i64 q6) rfl
  have y6 := BX.out 6 (.int .i64 q7) rfl
  go_wp2_with fail
  go_ret
  have LZ := lit64 W0 [q1, q2, q3, q4, q5, q6, q7] #[.int .i64 q1, .int .i64 q2, .int .i64 q3, .int .i64 q4, .int .i64 q5, .int .i64 q6, .int .i64 q7] rfl 7 rfl (by decide)
  rw [hz] at LZ
  exact ⟨w.heap.size + 1, rfl, by omega, LZ, B0.out.alloc (by omega) _⟩
set_option maxRecDepth 100000 in
set_option maxHeartbeats 4000000 in
theorem rnode_any (n1 n2 n3 n4 n5 : Int) (w : World) :
    Calls Try.prog 36 #[.agg #[.int .i64 n1, .int .i64 n2, .int .i64 n3, .int .i64 n4, .int .i64 n5]] w fun e w' => ∃ g, e = .returned (.slice (some ⟨g, 0, none⟩) 5 5) ∧ w.heap.size ≤ g ∧ HoldsN w' (some ⟨g, 0, none⟩) 5 5 [n1, n2, n3, n4, n5] ∧ Below w.heap.size w w' := by
  go_enter Try.func36, Try.ntmps36
  go_upto_region 1 with fail
  have B0 := hid ((Below.refl w.heap.size w).alloc (Nat.le_refl _) (.cells #[.int .i64 n1, .int .i64 n2, .int .i64 n3, .int .i64 n4, .int .i64 n5] 27))
  have BX := hid (Box.alloc w #[.int .i64 n1, .int .i64 n2, .int .i64 n3, .int .i64 n4, .int .i64 n5] (27))
  have hz : (w.alloc (.cells #[.int .i64 n1, .int .i64 n2, .int .i64 n3, .int .i64 n4, .int .i64 n5] 27)).heap.size = w.heap.size + 1 := by simp
  generalize (w.alloc (.cells #[.int .i64 n1, .int .i64 n2, .int .i64 n3, .int .i64 n4, .int .i64 n5] 27)) = W0 at *
  have y0 := BX.out 0 (.int .i64 n1) rfl
  have y1 := BX.out 1 (.int .i64 n2) rfl
  have y2 := BX.out 2 (.int .i64 n3) rfl
  have y3 := BX.out 3 (.int .i64 n4) rfl
  have y4 := BX.out 4 (.int .i64 n5) rfl
  go_wp2_with fail
  go_ret
  have LZ := lit64 W0 [n1, n2, n3, n4, n5] #[.int .i64 n1, .int .i64 n2, .int .i64 n3, .int .i64 n4, .int .i64 n5] rfl 5 rfl (by decide)
  rw [hz] at LZ
  exact ⟨w.heap.size + 1, rfl, by omega, LZ, B0.out.alloc (by omega) _⟩
end Go.Proofs.Ytkjglpgjflkmbaa
