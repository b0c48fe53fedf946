/-
  Contracts of furlongref10: whole numbers behind bytes.
  Contracts of furlongref10: a literal's numbers, a count, a list of numbers, a queue's and a node's numbers.
  Contracts of furlongref10: a task's bytes.
  Contracts of furlongref10: an entry's bytes.
-/
import Derived.Test.YthkbddnkcljjpaaMCA
import Derived.Test.YthkbddnkcljjpaaSE
namespace Go.Proofs.Ythkbddnkcljjpaa
open Go.RowKit Go.Deep
set_option linter.unusedVariables false
set_option linter.unusedSimpArgs false

/-- What is left as it was when bytes grow behind 'v'. -/
def PK (v : Value) (W W' : World) (v' : Value) : Prop := ∀ p, WK p v W W' v'
theorem PK.refl (v : Value) (W : World) : PK v W W v := fun p => WK.refl p v W
theorem PK.trans {v v1 v2 : Value} {A B C : World} (h : PK v A B v1) (k : PK v1 B C v2) : PK v A C v2 := fun p => (h p).trans (k p)
theorem PK.of_below {v : Value} {A B : World} (h : Below A.heap.size A B) : PK v A B v := fun p => WK.of_below h
theorem PK.of_grown {v v' : Value} {A B : World} (hg : A.grownBy B v.ownBlock) (hv : v'.ownBlock = v.ownBlock ∨ v'.ownBlock = some A.heap.size) : PK v A B v' := fun p =>
  ⟨hg.os, hg.tape, hg.output, hg.size, fun b hb _ h2 => hg.block b hb (fun e => h2 e.symm), fun g e => by
    rcases hv with hv | hv
    · exact .inl (hv ▸ e)
    · rw [hv] at e; cases e; exact .inr (Nat.le_refl _)⟩
theorem PK.cell {v v' : Value} {A B : World} (h : PK v A B v') {a : Addr} {u : Value} (hc : A.cell? a = some u) (h2 : v.ownBlock ≠ some a.block) : B.cell? a = some u :=
  (h (a.block + 1)).cell hc (by omega) h2
theorem PK.size {v v' : Value} {A B : World} (h : PK v A B v') : A.heap.size ≤ B.heap.size := WK.size (h 0)
theorem PK.below {v v' : Value} {A B : World} {base : Nat} (h : PK v A B v') (hb : base ≤ A.heap.size) (hv : ∀ g, v.ownBlock = some g → base ≤ g) : Below base A B :=
  ⟨(h 0).os, (h 0).tape, (h 0).output, (h 0).size, fun b hlt => (h (b + 1)).block b (by omega) (by omega) (fun e => by have := hv b e; omega)⟩

section
variable {ops : Array Oper} {rest : List Oper} {o : Oper} {a : Act} {Q : Exit → Act → World → Prop}
theorem cat_grow (wr : World) (hg : o.guard = none) (s y : Operand) (hop : o.op = Op.call { callee := Callee.builtin Builtin.append, args := #[s, y], argTypes := #[37, 37] })
    (base n : Nat) (v : Value) (l : List Int) (hs : a.eval s = v) (hown : Own base wr v n l) (hb : base ≤ wr.heap.size) (ao : Option Addr) (m c : Nat) (p : List Int) (hx : a.eval y = .slice ao m c) (hp : HoldsB wr ao m c p) (b1 : n + m ≤ 140737488355328)
    (hK : ∀ v' w', Own base w' v' (n + m) (l ++ p) → PK v wr w' v' → wpList Try.prog ops Q rest (a.put o.dst v') w') :
    wpList Try.prog ops Q (o :: rest) a wr := by
  refine wpList_plain hg fun K hk => ?_
  have h := appB_step (ops := ops) (Q := Q) (K := K) wr hg s y hop base n v l hs hown hb ao m c p hx hp b1 (fun v' w' h1 h2 h3 => hk _ _ (hK v' w' h1 (PK.of_grown h2 h3)))
  rwa [if_pos (by simp [Region.wanted, hg])] at h
end

set_option maxRecDepth 100000 in
set_option maxHeartbeats 4000000 in
theorem put_any (base : Nat) (v0 : Value) (l0 : List Int) (ao : Option Addr) (n c : Nat) (xs : List Int) (w : World) (ho : Own base w v0 l0.length l0) (hb : base ≤ w.heap.size) (ha : HoldsN w ao n c xs) (hne : ∀ b o, ao = some ⟨b, o, none⟩ → 0 < n → v0.ownBlock ≠ some b) (hx : ∀ x ∈ xs, I64 x) (hm : l0.length + 9 * n ≤ 140737488355328) :
    Calls Try.prog 33 #[v0, .slice ao n c] w fun e w' => ∃ v', e = .returned v' ∧ Own base w' v' (l0 ++ bytesZ xs).length (l0 ++ bytesZ xs) ∧ PK v0 w w' v' := by
  have HO := hid ho
  have HA := hid ha
  have HX := hid hx
  have HN := hid ha.1
  have hcap := ha.2.1
  have hcm := ha.2.2.1
  obtain ⟨va0, vc0, rfl⟩ := ho.form
  clear ho ha hx
  go_enter Try.func33, Try.ntmps33
  go_wp2_with fail
  go_loopw [0, 9] (fun v i wr => ∃ k : Nat, k ≤ n ∧ i = .int .i64 (k : Int) ∧ Hid (Own base wr v (l0 ++ bytesZ (xs.take k)).length (l0 ++ bytesZ (xs.take k))) ∧ Hid (PK (.slice va0 l0.length vc0) w wr v)) (fun _ i _ => n - (intOf i).toNat)
  case atStart => exact ⟨0, by omega, rfl, by unfold Hid; simpa [bytesZ] using HO.out, PK.refl _ _⟩
  case round =>
    obtain ⟨k, hk, rfl, HW, K0⟩ := hrel
    by_cases hlt : k < n
    · have hlt' : k < xs.length := by rw [HN.out]; exact hlt
      obtain ⟨ab, ao', e, RI⟩ := HA.out.rowN (by omega)
      cases e
      have c0 := K0.out.cell (RI k hlt) (hne _ _ rfl (by omega))
      have SN := hid (bytesZ_snoc hlt')
      have hbl := bytesZ_len (xs.take k)
      have hxk : I64 (xs[k]?.getD 0) := HX.out _ (by rw [List.getElem?_eq_getElem hlt']; exact List.getElem_mem hlt')
      have ka : (0 : Int) ≤ (k : Int) := by omega
      have kb : (k : Int) < (n : Int) := by omega
      have hl9 : (l0 ++ bytesZ (xs.take k)).length + 9 ≤ 140737488355328 := by
        rw [List.length_append]
        rw [List.length_take] at hbl
        omega
      clear RI hbl
      generalize xs[k]?.getD 0 = x at *
      have LAY := hid (fun W => rwhole_any x W hxk)
      have hn9 : 1 + shelf (zig x) ≤ 9 := by have := shelf_le (zig x); omega
      have hnl := numB_len (zig x)
      clear hxk
      generalize hll : l0 ++ bytesZ (xs.take k) = l at *
      have HLL := hid hll
      clear hll
      generalize numB (zig x) = BS at *
      generalize hsz : 1 + shelf (zig x) = z at *
      clear hsz
      go_wp2_with fail
      with_reducible refine (LAY.out _).mono ?_
      rintro e x1 ⟨g, rfl, o1, b1⟩
      have HR := hid (HW.out.below' b1)
      obtain ⟨ga, gc, rfl⟩ := o1.form
      have HB8 := hid o1.holds
      have KR := hid (K0.out.trans (PK.of_below b1))
      have hbs := Nat.le_trans hb KR.out.size
      clear o1 b1 c0 HW K0
      go_wp2_with (at_builtin; refine cat_grow x1 rfl (.tmp 13) (.tmp 15) rfl base l.length _ l rfl HR.out hbs ga z gc BS rfl HB8.out (by omega) ?_)
      intro v' w9 oo kk
      have OO := hid oo
      have KK := hid (KR.out.trans kk)
      clear oo kk
      go_wp2_with fail
      refine ⟨⟨k + 1, by omega, by go_num, by rw [SN.out, ← List.append_assoc, HLL.out, List.length_append, hnl]; exact OO.out, KK.out⟩, ?_⟩
      simp [intOf]; omega
    · have : k = n := by omega
      subst this
      have kb : ¬ ((k : Int) < (k : Int)) := by omega
      have HT : Hid (xs.take k = xs) := by unfold Hid; rw [← HN.out]; exact List.take_length
      go_wp2_with fail
      go_ret
      rw [HT.out] at HW
      refine ⟨_, rfl, ?_, K0.out⟩
      have h := HW.out
      rw [List.length_append] at h
      exact h
end Go.Proofs.Ythkbddnkcljjpaa

namespace Go.Proofs.Ythkbddnkcljjpaa
open Go.RowKit Go.Deep
set_option linter.unusedVariables false
set_option linter.unusedSimpArgs false

theorem lit64 (W : World) (xs : List Int) (cs : Array Value) (hcs : cs.toList = xs.flatMap encN) (n : Nat) (hn : xs.length = n) (hxl : n ≤ 64) : HoldsN (W.alloc (.cells cs 2)) (some ⟨W.heap.size, 0, none⟩) n n xs := by
  subst hn
  refine ⟨rfl, Nat.le_refl _, by omega, (fun h => by cases h), fun _ => ⟨W.heap.size, 0, rfl, by simp, fun j x hx i u hu => ?_⟩⟩
  rw [Nat.zero_add, cell_of_row _ W.heap.size _ cs _ (0, 0) (heap_alloc_new W _), ← Array.getElem?_toList, hcs]
  exact flat_get encN_len xs j x i u hx hu
theorem put_lit (base : Nat) (v0 : Value) (l0 xs : List Int) (W : World) (ho : Own base W v0 l0.length l0) (hb : base ≤ W.heap.size) (cs : Array Value) (hcs : cs.toList = xs.flatMap encN) (n : Nat) (hn : xs.length = n) (hxl : n ≤ 64) (hx : ∀ x ∈ xs, I64 x) (hm : l0.length + 9 * n ≤ 140737488355328) :
    Calls Try.prog 33 #[v0, .slice (some ⟨W.heap.size, 0, none⟩) n n] (W.alloc (.cells cs 2)) fun e w' => ∃ v', e = .returned v' ∧ Own base w' v' (l0 ++ bytesZ xs).length (l0 ++ bytesZ xs) ∧ PK v0 W w' v' := by
  have ba := (Below.refl W.heap.size W).alloc (Nat.le_refl _) (.cells cs 2)
  refine (put_any base v0 l0 _ n n xs _ (ho.below' ba) (by simp; omega) (lit64 W xs cs hcs n hn hxl) (fun b o e _ => by cases e; exact fun e2 => by have := ho.1.lt _ e2; omega) hx hm).mono ?_
  rintro e w' ⟨v', h1, h2, h3⟩
  exact ⟨v', h1, h2, (PK.of_below ba).trans h3⟩

set_option maxRecDepth 100000 in
set_option maxHeartbeats 4000000 in
theorem rcount_any (n : Nat) (w : World) (hn : (n : Int) ≤ 9223372036854775807) :
    Calls Try.prog 47 #[.int .i64 n] w fun e w' => ∃ v, e = .returned v ∧ Own w.heap.size w' v (1 + shelf (n : Int)) (numB (n : Int)) ∧ Below w.heap.size w w' := by
  have R := hid (rnum_any (n : Int) w (by omega) (by omega))
  go_enter Try.func47, Try.ntmps47
  go_wp2_with fail
  with_reducible refine R.out.mono ?_
  rintro e W1 ⟨v, rfl, h1, h2⟩
  go_wp2_with fail
  go_ret
  exact ⟨_, rfl, h1, h2⟩

/-- The bytes of a list of numbers. -/
def numsZ (xs : List Int) : List Int := numB (xs.length : Int) ++ bytesZ xs
theorem numsZ_len (xs : List Int) : (numsZ xs).length ≤ 9 + 9 * xs.length := by
  have h1 := bytesZ_len xs
  have h2 := shelf_le (xs.length : Int)
  unfold numsZ
  rw [List.length_append, numB_len]; omega
set_option maxRecDepth 100000 in
set_option maxHeartbeats 4000000 in
theorem rnumbers_any (ao : Option Addr) (n c : Nat) (xs : List Int) (w : World) (ha : HoldsN w ao n c xs) (hx : ∀ x ∈ xs, I64 x) (hm : 9 + 9 * n ≤ 140737488355328) :
    Calls Try.prog 42 #[.slice ao n c] w fun e w' => ∃ v, e = .returned v ∧ Own w.heap.size w' v (numsZ xs).length (numsZ xs) ∧ Below w.heap.size w w' := by
  have HA := hid ha
  have HX := hid hx
  have HN := hid ha.1
  have hcap := ha.2.1
  have hcm := ha.2.2.1
  have R := hid (rcount_any n w (by omega))
  have hnb9 : 1 + shelf (n : Int) ≤ 9 := by have := shelf_le (n : Int); omega
  have hnb := numB_len (n : Int)
  have HZ : Hid (numsZ xs = numB (n : Int) ++ bytesZ xs) := by unfold Hid numsZ; rw [HN.out]
  clear ha hx
  go_enter Try.func42, Try.ntmps42
  go_wp2_with fail
  with_reducible refine R.out.mono ?_
  rintro e w1 ⟨v, rfl, o1, b1⟩
  have HO := hid o1
  have HB := hid b1
  generalize numB (n : Int) = NB at *
  generalize hsz : 1 + shelf (n : Int) = z0 at *
  clear hsz o1 b1 R
  have hs1 := HB.out.size
  go_wp2_with fail
  go_loopw [3, 11] (fun v i wr => ∃ k : Nat, k ≤ n ∧ i = .int .i64 (k : Int) ∧ Hid (Own w.heap.size wr v (NB ++ bytesZ (xs.take k)).length (NB ++ bytesZ (xs.take k))) ∧ Hid (Below w.heap.size w wr)) (fun _ i _ => n - (intOf i).toNat)
  case atStart => exact ⟨0, by omega, rfl, by unfold Hid; simpa [bytesZ, hnb] using HO.out, HB.out⟩
  case round =>
    obtain ⟨k, hk, rfl, HW, K0⟩ := hrel
    by_cases hlt : k < n
    · have hlt' : k < xs.length := by rw [HN.out]; exact hlt
      obtain ⟨ab, ao', e, RI⟩ := (HA.out.below K0.out).rowN (by omega)
      cases e
      have c0 := RI k hlt
      have SN := hid (bytesZ_snoc hlt')
      have hbl := bytesZ_len (xs.take k)
      have hxk : I64 (xs[k]?.getD 0) := HX.out _ (by rw [List.getElem?_eq_getElem hlt']; exact List.getElem_mem hlt')
      have ka : (0 : Int) ≤ (k : Int) := by omega
      have kb : (k : Int) < (n : Int) := by omega
      have hl9 : (NB ++ bytesZ (xs.take k)).length + 9 ≤ 140737488355328 := by
        rw [List.length_append]
        rw [List.length_take] at hbl
        omega
      clear RI hbl
      generalize xs[k]?.getD 0 = x at *
      have LAY := hid (fun W => rwhole_any x W hxk)
      have hn9 : 1 + shelf (zig x) ≤ 9 := by have := shelf_le (zig x); omega
      have hnl := numB_len (zig x)
      clear hxk
      generalize hll : NB ++ bytesZ (xs.take k) = l at *
      have HLL := hid hll
      clear hll
      generalize numB (zig x) = BS at *
      generalize hsz : 1 + shelf (zig x) = z at *
      clear hsz
      go_wp2_with fail
      with_reducible refine (LAY.out _).mono ?_
      rintro e x1 ⟨g, rfl, o1, b1⟩
      have HR := hid (HW.out.below' b1)
      obtain ⟨ga, gc, rfl⟩ := o1.form
      have HB8 := hid o1.holds
      have KR := hid (K0.out.trans (b1.mono K0.out.size))
      have hbs := KR.out.size
      clear o1 b1 c0 HW K0
      go_wp2_with (at_builtin; refine cat_grow x1 rfl (.tmp 15) (.tmp 17) rfl w.heap.size l.length _ l rfl HR.out hbs ga z gc BS rfl HB8.out (by omega) ?_)
      intro v' w9 oo kk
      have OO := hid oo
      have KK := hid (KR.out.trans (kk.below hbs (fun g e => (HR.out.1.lt g e).1)))
      clear oo kk
      go_wp2_with fail
      refine ⟨⟨k + 1, by omega, by go_num, by rw [SN.out, ← List.append_assoc, HLL.out, List.length_append, hnl]; exact OO.out, KK.out⟩, ?_⟩
      simp [intOf]; omega
    · have : k = n := by omega
      subst this
      have kb : ¬ ((k : Int) < (k : Int)) := by omega
      have HT : Hid (xs.take k = xs) := by unfold Hid; rw [← HN.out]; exact List.take_length
      go_wp2_with fail
      go_ret
      rw [HT.out] at HW
      refine ⟨_, rfl, ?_, K0.out⟩
      have h := HW.out
      rw [← HZ.out] at h
      exact h
set_option maxRecDepth 100000 in
set_option maxHeartbeats 4000000 in
theorem rqueue_any (q1 q2 q3 q4 q5 q6 q7 : Int) (w : World) :
    Calls Try.prog 35 #[.agg #[.int .i64 q1, .int .i64 q2, .int .i64 q3, .int .i64 q4, .int .i64 q5, .int .i64 q6, .int .i64 q7]] w fun e w' => ∃ g, e = .returned (.slice (some ⟨g, 0, none⟩) 7 7) ∧ w.heap.size ≤ g ∧ HoldsN w' (some ⟨g, 0, none⟩) 7 7 [q1, q2, q3, q4, q5, q6, q7] ∧ Below w.heap.size w w' := by
  go_enter Try.func35, Try.ntmps35
  go_upto_region 1 with fail
  have B0 := hid ((Below.refl w.heap.size w).alloc (Nat.le_refl _) (.cells #[.int .i64 q1, .int .i64 q2, .int .i64 q3, .int .i64 q4, .int .i64 q5, .int .i64 q6, .int .i64 q7] 25))
  have BX := hid (Box.alloc w #[.int .i64 q1, .int .i64 q2, .int .i64 q3, .int .i64 q4, .int .i64 q5, .int .i64 q6, .int .i64 q7] (25))
  have hz : (w.alloc (.cells #[.int .i64 q1, .int .i64 q2, .int .i64 q3, .int .i64 q4, .int .i64 q5, .int .i64 q6, .int .i64 q7] 25)).heap.size = w.heap.size + 1 := by simp
  generalize (w.alloc (.cells #[.int .i64 q1, .int .i64 q2, .int .i64 q3, .int .i64 q4, .int .i64 q5, .int .i64 q6, .int .i64 q7] 25)) = W0 at *
  have y0 := BX.out 0 (.int .i64 q1) rfl
  have y1 := BX.out 1 (.int .i64 q2) rfl
  have y2 := BX.out 2 (.int .i64 q3) rfl
  have y3 := BX.out 3 (.int .i64 q4) rfl
  have y4 := BX.out 4 (.int .i64 q5) rfl
  have y5 := BX.out 5 (.int .i64 q6) rfl
  have y6 := BX.out 6 (.int .i64 q7) rfl
  go_wp2_with fail
  go_ret
  have LZ := lit64 W0 [q1, q2, q3, q4, q5, q6, q7] #[.int .i64 q1, .int .i64 q2, .int .i64 q3, .int .i64 q4, .int .i64 q5, .int .i64 q6, .int .i64 q7] rfl 7 rfl (by decide)
  rw [hz] at LZ
  exact ⟨w.heap.size + 1, rfl, by omega, LZ, B0.out.alloc (by omega) _⟩
set_option maxRecDepth 100000 in
set_option maxHeartbeats 4000000 in
theorem rnode_any (n1 n2 n3 n4 n5 : Int) (w : World) :
    Calls Try.prog 36 #[.agg #[.int .i64 n1, .int .i64 n2, .int .i64 n3, .int .i64 n4, .int .i64 n5]] w fun e w' => ∃ g, e = .returned (.slice (some ⟨g, 0, none⟩) 5 5) ∧ w.heap.size ≤ g ∧ HoldsN w' (some ⟨g, 0, none⟩) 5 5 [n1, n2, n3, n4, n5] ∧ Below w.heap.size w w' := by
  go_enter Try.func36, Try.ntmps36
  go_upto_region 1 with fail
  have B0 := hid ((Below.refl w.heap.size w).alloc (Nat.le_refl _) (.cells #[.int .i64 n1, .int .i64 n2, .int .i64 n3, .int .i64 n4, .int .i64 n5] 27))
  have BX := hid (Box.alloc w #[.int .i64 n1, .int .i64 n2, .int .i64 n3, .int .i64 n4, .int .i64 n5] (27))
  have hz : (w.alloc (.cells #[.int .i64 n1, .int .i64 n2, .int .i64 n3, .int .i64 n4, .int .i64 n5] 27)).heap.size = w.heap.size + 1 := by simp
  generalize (w.alloc (.cells #[.int .i64 n1, .int .i64 n2, .int .i64 n3, .int .i64 n4, .int .i64 n5] 27)) = W0 at *
  have y0 := BX.out 0 (.int .i64 n1) rfl
  have y1 := BX.out 1 (.int .i64 n2) rfl
  have y2 := BX.out 2 (.int .i64 n3) rfl
  have y3 := BX.out 3 (.int .i64 n4) rfl
  have y4 := BX.out 4 (.int .i64 n5) rfl
  go_wp2_with fail
  go_ret
  have LZ := lit64 W0 [n1, n2, n3, n4, n5] #[.int .i64 n1, .int .i64 n2, .int .i64 n3, .int .i64 n4, .int .i64 n5] rfl 5 rfl (by decide)
  rw [hz] at LZ
  exact ⟨w.heap.size + 1, rfl, by omega, LZ, B0.out.alloc (by omega) _⟩
end Go.Proofs.Ythkbddnkcljjpaa

namespace Go.Proofs.Ythkbddnkcljjpaa
open Go.RowKit Go.Deep
set_option linter.unusedVariables false
set_option linter.unusedSimpArgs false

theorem Box.pk {v v' : Value} {A B : World} {Q : Nat} {cs : Array Value} (h : Box A Q cs) (k : PK v A B v') (h2 : v.ownBlock ≠ some Q) : Box B Q cs :=
  fun i x e => k.cell (h i x e) h2
theorem nilO (base : Nat) (w : World) : Own base w (.slice none 0 0) ([] : List Int).length [] := ⟨World.ownsRow_nil _ _ _ _, BB.nil⟩
theorem listZ_nums {xs : List Int} (h : xs.length ≤ 1024) : listZ xs = numsZ xs := by unfold listZ numsZ; rw [if_neg (by omega)]

set_option maxRecDepth 100000 in
set_option maxHeartbeats 8000000 in
theorem rtask_any (t1 t2 c m wk : Int) (ta : Option Addr) (tn tc : Nat) (tk : List Int) (st : Int) (w : World) (it1 : I64 t1) (it2 : I64 t2) (ic : I64 c) (im : I64 m) (iwk : I64 wk) (ist : I64 st) (ht : HoldsN w ta tn tc tk) (hx : ∀ x ∈ tk, I64 x) (htn : tn ≤ 1024) :
    Calls Try.prog 37 #[.agg #[.int .i64 t1, .int .i64 t2, .int .i64 c, .int .i64 m, .int .i64 wk, .slice ta tn tc, .int .i64 st]] w fun e w' => ∃ v, e = .returned v ∧ Own w.heap.size w' v (taskZ t1 t2 c m wk tk st).length (taskZ t1 t2 c m wk tk st) ∧ Below w.heap.size w w' := by
  have HT := hid ht
  have HX := hid hx
  have HN := hid ht.1
  have HZ : Hid (taskZ t1 t2 c m wk tk st = (bytesZ [t1, t2, c, m, wk] ++ numsZ tk) ++ bytesZ [st]) := by unfold Hid taskZ; rw [listZ_nums (by have := ht.1; omega), List.append_assoc]
  have b5 := bytesZ_len [t1, t2, c, m, wk]
  have b1 := bytesZ_len [st]
  have bn := numsZ_len tk
  have htl : tk.length ≤ 1024 := by have := ht.1; omega
  clear ht hx
  go_enter Try.func37, Try.ntmps37
  go_upto_region 1 with fail
  have B0 := hid ((Below.refl w.heap.size w).alloc (Nat.le_refl _) (.cells #[.int .i64 t1, .int .i64 t2, .int .i64 c, .int .i64 m, .int .i64 wk, .slice ta tn tc, .int .i64 st] 30))
  have BX := hid (Box.alloc w #[.int .i64 t1, .int .i64 t2, .int .i64 c, .int .i64 m, .int .i64 wk, .slice ta tn tc, .int .i64 st] (30))
  have hz : (w.alloc (.cells #[.int .i64 t1, .int .i64 t2, .int .i64 c, .int .i64 m, .int .i64 wk, .slice ta tn tc, .int .i64 st] 30)).heap.size = w.heap.size + 1 := by simp
  have Hz := hid hz
  clear hz
  generalize (w.alloc (.cells #[.int .i64 t1, .int .i64 t2, .int .i64 c, .int .i64 m, .int .i64 wk, .slice ta tn tc, .int .i64 st] 30)) = W0 at *
  have C1 := hid (put_lit (w.heap.size + 1) (.slice none 0 0) [] [t1, t2, c, m, wk] W0 (nilO _ _) (by rw [Hz.out]; exact Nat.le_refl _) #[.int .i64 t1, .int .i64 t2, .int .i64 c, .int .i64 m, .int .i64 wk] rfl 5 rfl (by decide) (by intro x hx; simp only [List.mem_cons, List.not_mem_nil, or_false] at hx; rcases hx with rfl | rfl | rfl | rfl | rfl <;> assumption) (by simp))
  have y0 := BX.out 0 (.int .i64 t1) rfl
  have y1 := BX.out 1 (.int .i64 t2) rfl
  have y2 := BX.out 2 (.int .i64 c) rfl
  have y3 := BX.out 3 (.int .i64 m) rfl
  have y4 := BX.out 4 (.int .i64 wk) rfl
  go_wp2_with fail
  with_reducible refine C1.out.mono ?_
  clear y0 y1 y2 y3 y4
  rintro e W1 ⟨v1, rfl, h1, k1⟩
  rw [List.nil_append] at h1
  replace BX := hid (BX.out.pk k1 (by intro e; cases e))
  have H1 := hid h1
  have B1 := hid (B0.out.trans (k1.below (base := w.heap.size) (by have := Hz.out; omega) (by intro g e; cases e)))
  have s1 : Hid (w.heap.size + 1 ≤ W1.heap.size) := by unfold Hid; have := k1.size; have := Hz.out; omega
  clear C1 h1 k1
  have C2 := hid (rnumbers_any ta tn tc tk W1 (HT.out.below B1.out) HX.out (by omega))
  have y5 := BX.out 5 (.slice ta tn tc) rfl
  go_wp2_with fail
  with_reducible refine C2.out.mono ?_
  clear y5
  rintro e W2 ⟨v2, rfl, h2, k2⟩
  have H2 := hid (H1.out.below' k2)
  replace BX := hid (BX.out.below k2)
  have B2 := hid (B1.out.trans (k2.mono (by have := s1.out; omega)))
  have s2 : Hid (w.heap.size + 1 ≤ W2.heap.size) := by unfold Hid; have := k2.size; have := s1.out; omega
  obtain ⟨ga, gc, rfl⟩ := h2.form
  have HB8 := hid h2.holds
  clear C2 h2 k2 H1 B1
  generalize hl1 : bytesZ [t1, t2, c, m, wk] = L1 at *
  generalize hl2 : numsZ tk = L2 at *
  generalize hl3 : bytesZ [st] = L3 at *
  have L3E := hid hl3
  clear hl1 hl2 hl3
  simp only [List.length_cons, List.length_nil] at b5 b1
  have n1 := hid b5
  have n2 : Hid (L2.length ≤ 9 + 9 * 1024) := by unfold Hid; omega
  clear b5 b1 bn htl
  generalize hc1 : L1.length = z1 at *
  generalize hc2 : L2.length = z2 at *
  have Z1 := hid hc1
  have Z2 := hid hc2
  clear hc1 hc2
  go_wp2_with (at_builtin; refine cat_grow W2 rfl (.tmp 18) (.tmp 21) rfl (w.heap.size + 1) z1 v1 L1 rfl H2.out s2.out ga z2 gc L2 rfl HB8.out (by have := n1.out; have := n2.out; omega) ?_)
  intro v3 W3 h3 k3
  have H3 : Hid (Own (w.heap.size + 1) W3 v3 (L1 ++ L2).length (L1 ++ L2)) := by unfold Hid; rw [List.length_append, Z1.out, Z2.out]; exact h3
  replace BX := hid (BX.out.pk k3 (fun e => by have := H2.out.1.lt _ e; omega))
  have B3 := hid (B2.out.trans (k3.below (base := w.heap.size) (by have := s2.out; omega) (fun g e => by have := H2.out.1.lt g e; omega)))
  have s3 : Hid (w.heap.size + 1 ≤ W3.heap.size) := by unfold Hid; have := k3.size; have := s2.out; omega
  clear h3 k3 H2 B2 HB8
  have C4 := hid (put_lit (w.heap.size + 1) v3 (L1 ++ L2) [st] W3 H3.out s3.out #[.int .i64 st] rfl 1 rfl (by decide) (by intro x hx; simp only [List.mem_cons, List.not_mem_nil, or_false] at hx; rcases hx with rfl <;> assumption) (by have := n1.out; have := n2.out; have := Z1.out; have := Z2.out; rw [List.length_append]; omega))
  have y6 := BX.out 6 (.int .i64 st) rfl
  go_wp2_with fail
  with_reducible refine C4.out.mono ?_
  clear y6
  rintro e W4 ⟨v4, rfl, h4, k4⟩
  have H4 := hid h4
  have B4 := hid (B3.out.trans (k4.below (base := w.heap.size) (by have := s3.out; omega) (fun g e => by have := H3.out.1.lt g e; omega)))
  clear C4 h4 k4
  go_wp2_with fail
  go_ret
  refine ⟨_, rfl, ?_, B4.out⟩
  rw [HZ.out, ← L3E.out]
  exact H4.out.base (by omega)
end Go.Proofs.Ythkbddnkcljjpaa

namespace Go.Proofs.Ythkbddnkcljjpaa
open Go.RowKit Go.Deep
set_option linter.unusedVariables false
set_option linter.unusedSimpArgs false

theorem Box.mid {W : World} {Q : Nat} {cs : Array Value} (h : Box W Q cs) (o n : Nat) (l : List Value) (e : (cs.toList.drop o).take n = l) : W.rangeAt Q o l :=
  fun j v hv => h (o + j) v (by
    subst e
    rw [List.getElem?_take] at hv
    split at hv
    · simpa using hv
    · cases hv)
set_option maxRecDepth 100000 in
theorem sizeQue : (Try.prog.info? 25).map (·.size) = some 7 := by kernel_rfl
set_option maxRecDepth 100000 in
theorem sizeNod : (Try.prog.info? 27).map (·.size) = some 5 := by kernel_rfl
section
variable {ops : Array Oper} {rest : List Oper} {op : Oper} {a : Act} {w : World} {Q : Exit → Act → World → Prop}
theorem row_alloc_set (w : World) (old cs : Array Value) (t : Nat) : (w.alloc (.cells old t)).setRow w.heap.size cs = w.alloc (.cells cs t) := by
  unfold World.setRow World.alloc
  simp only [World.mk.injEq, true_and, and_true]
  apply Array.ext_getElem?
  intro i
  simp only [Array.getElem?_modify, Array.getElem?_push]
  by_cases e : w.heap.size = i
  · subst e; simp
  · have e' : ¬ i = w.heap.size := fun h => e h.symm
    simp [e, e']
/-- The zero command. -/
def cmd0 : Array Value := #[.int .i64 0, .int .i64 0, .int .i64 0, .int .i64 0, .int .i64 0, .int .i64 0, .int .i64 0, .int .i64 0, .int .i64 0, .int .i64 0, .int .i64 0, .int .i64 0, .int .i64 0, .int .i64 0, .int .i64 0, .int .i64 0, .int .i64 0, .int .i64 0, .int .i64 0, .int .i64 0, .int .i64 0, .int .i64 0, .slice none 0 0, .int .i64 0]
set_option maxRecDepth 100000 in
theorem alloc_cmd (w : World) : (Instr.alloc 32 true (.tuple #[])).run Try.prog w = .ok (.pointer (some ⟨w.heap.size, 0, none⟩)) (w.alloc (.cells cmd0 32)) := by kernel_rfl
theorem wpList_alloc_cmd (hg : op.guard = none) (ho : op.op = .alloc 32) (h : wpList Try.prog ops Q rest (a.put op.dst (.pointer (some ⟨w.heap.size, 0, none⟩))) (w.alloc (.cells cmd0 32))) : wpList Try.prog ops Q (op :: rest) a w := by
  refine wpList_plain hg fun _ hK => ?_
  unfold Oper.wp execOp
  have e := alloc_cmd w
  simp only [ho, Sem.run_bind, Sem.run_pure, e, Result.andThen_ok]
  exact hK _ _ h
theorem wpList_store_cmd (hg : op.guard = none) (x y : Operand) (ho : op.op = .store 32 x y) (cs : Array Value) (hx : a.eval x = .pointer (some ⟨w.heap.size, 0, none⟩)) (hy : a.eval y = .agg cs) (hs : cs.size = 24) (h1 : cs.all (·.oneCell') = true)
    (h : wpList Try.prog ops Q rest (a.put op.dst undef) (w.alloc (.cells cs 32))) : wpList Try.prog ops Q (op :: rest) a (w.alloc (.cells cmd0 32)) := by
  refine wpList_store_row hg 32 x y ho w.heap.size cs hx hy 32 cmd0 (heap_alloc_new w _) (by rw [sizeCmd, hs]) (by rw [hs]; rfl) h1 ?_
  rw [row_alloc_set]
  exact h
end
set_option maxRecDepth 100000 in
set_option maxHeartbeats 8000000 in
theorem rentry_any (gp cl sq : Int) (kd ci ir bt si q1 q2 q3 q4 q5 q6 q7 n1 n2 n3 n4 n5 : Int) (t1 t2 c m wk : Int) (ta : Option Addr) (tn tc : Nat) (tk : List Int) (st : Int) (w : World) (igp : I64 gp) (icl : I64 cl) (isq : I64 sq) (ikd : I64 kd) (ici : I64 ci) (iir : I64 ir) (ibt : I64 bt) (isi : I64 si) (iq1 : I64 q1) (iq2 : I64 q2) (iq3 : I64 q3) (iq4 : I64 q4) (iq5 : I64 q5) (iq6 : I64 q6) (iq7 : I64 q7) (in1 : I64 n1) (in2 : I64 n2) (in3 : I64 n3) (in4 : I64 n4) (in5 : I64 n5) (it1 : I64 t1) (it2 : I64 t2) (ic : I64 c) (im : I64 m) (iwk : I64 wk) (ist : I64 st) (ht : HoldsN w ta tn tc tk) (hx : ∀ x ∈ tk, I64 x) :
    Calls Try.prog 13 #[.agg #[.int .i64 gp, .int .i64 cl, .int .i64 sq, .int .i64 kd, .int .i64 ci, .int .i64 ir, .int .i64 bt, .int .i64 si, .int .i64 q1, .int .i64 q2, .int .i64 q3, .int .i64 q4, .int .i64 q5, .int .i64 q6, .int .i64 q7, .int .i64 n1, .int .i64 n2, .int .i64 n3, .int .i64 n4, .int .i64 n5, .int .i64 t1, .int .i64 t2, .int .i64 c, .int .i64 m, .int .i64 wk, .slice ta tn tc, .int .i64 st]] w fun e w' => ∃ v, e = .returned (.tuple #[v, .int .i64 (encE tn kd)]) ∧ (encE tn kd = 0 → Own w.heap.size w' v (entZ gp cl sq (cmdZ kd ci ir bt si (bytesZ [q1, q2, q3, q4, q5, q6, q7]) (bytesZ [n1, n2, n3, n4, n5]) (taskZ t1 t2 c m wk tk st))).length (entZ gp cl sq (cmdZ kd ci ir bt si (bytesZ [q1, q2, q3, q4, q5, q6, q7]) (bytesZ [n1, n2, n3, n4, n5]) (taskZ t1 t2 c m wk tk st)))) ∧ (encE tn kd ≠ 0 → v = .slice none 0 0) ∧ Below w.heap.size w w' := by
  have HT := hid ht
  have HX := hid hx
  have tl := ht.1
  have tcap := ht.2.1
  have tcm := ht.2.2.1
  clear ht hx
  go_enter Try.func13, Try.ntmps13
  go_upto_region 1 with fail
  have B0 := hid ((Below.refl w.heap.size w).alloc (Nat.le_refl _) (.cells #[.int .i64 gp, .int .i64 cl, .int .i64 sq, .int .i64 kd, .int .i64 ci, .int .i64 ir, .int .i64 bt, .int .i64 si, .int .i64 q1, .int .i64 q2, .int .i64 q3, .int .i64 q4, .int .i64 q5, .int .i64 q6, .int .i64 q7, .int .i64 n1, .int .i64 n2, .int .i64 n3, .int .i64 n4, .int .i64 n5, .int .i64 t1, .int .i64 t2, .int .i64 c, .int .i64 m, .int .i64 wk, .slice ta tn tc, .int .i64 st] 34))
  have BX := hid (Box.alloc w #[.int .i64 gp, .int .i64 cl, .int .i64 sq, .int .i64 kd, .int .i64 ci, .int .i64 ir, .int .i64 bt, .int .i64 si, .int .i64 q1, .int .i64 q2, .int .i64 q3, .int .i64 q4, .int .i64 q5, .int .i64 q6, .int .i64 q7, .int .i64 n1, .int .i64 n2, .int .i64 n3, .int .i64 n4, .int .i64 n5, .int .i64 t1, .int .i64 t2, .int .i64 c, .int .i64 m, .int .i64 wk, .slice ta tn tc, .int .i64 st] (34))
  have hz : (w.alloc (.cells #[.int .i64 gp, .int .i64 cl, .int .i64 sq, .int .i64 kd, .int .i64 ci, .int .i64 ir, .int .i64 bt, .int .i64 si, .int .i64 q1, .int .i64 q2, .int .i64 q3, .int .i64 q4, .int .i64 q5, .int .i64 q6, .int .i64 q7, .int .i64 n1, .int .i64 n2, .int .i64 n3, .int .i64 n4, .int .i64 n5, .int .i64 t1, .int .i64 t2, .int .i64 c, .int .i64 m, .int .i64 wk, .slice ta tn tc, .int .i64 st] 34)).heap.size = w.heap.size + 1 := by simp
  have Hz := hid hz
  clear hz
  generalize (w.alloc (.cells #[.int .i64 gp, .int .i64 cl, .int .i64 sq, .int .i64 kd, .int .i64 ci, .int .i64 ir, .int .i64 bt, .int .i64 si, .int .i64 q1, .int .i64 q2, .int .i64 q3, .int .i64 q4, .int .i64 q5, .int .i64 q6, .int .i64 q7, .int .i64 n1, .int .i64 n2, .int .i64 n3, .int .i64 n4, .int .i64 n5, .int .i64 t1, .int .i64 t2, .int .i64 c, .int .i64 m, .int .i64 wk, .slice ta tn tc, .int .i64 st] 34)) = WA at *
  have LD := hid (run_loadAt_mid (P := Try.prog) WA w.heap.size 3 32 [.int .i64 kd, .int .i64 ci, .int .i64 ir, .int .i64 bt, .int .i64 si, .int .i64 q1, .int .i64 q2, .int .i64 q3, .int .i64 q4, .int .i64 q5, .int .i64 q6, .int .i64 q7, .int .i64 n1, .int .i64 n2, .int .i64 n3, .int .i64 n4, .int .i64 n5, .int .i64 t1, .int .i64 t2, .int .i64 c, .int .i64 m, .int .i64 wk, .slice ta tn tc, .int .i64 st] _ (BX.out.range 3 [.int .i64 kd, .int .i64 ci, .int .i64 ir, .int .i64 bt, .int .i64 si, .int .i64 q1, .int .i64 q2, .int .i64 q3, .int .i64 q4, .int .i64 q5, .int .i64 q6, .int .i64 q7, .int .i64 n1, .int .i64 n2, .int .i64 n3, .int .i64 n4, .int .i64 n5, .int .i64 t1, .int .i64 t2, .int .i64 c, .int .i64 m, .int .i64 wk, .slice ta tn tc, .int .i64 st] rfl) Try.underlying32 rfl sizeCmd)
  have ONE : Hid ((#[.int .i64 kd, .int .i64 ci, .int .i64 ir, .int .i64 bt, .int .i64 si, .int .i64 q1, .int .i64 q2, .int .i64 q3, .int .i64 q4, .int .i64 q5, .int .i64 q6, .int .i64 q7, .int .i64 n1, .int .i64 n2, .int .i64 n3, .int .i64 n4, .int .i64 n5, .int .i64 t1, .int .i64 t2, .int .i64 c, .int .i64 m, .int .i64 wk, .slice ta tn tc, .int .i64 st] : Array Value).all (·.oneCell') = true) := by unfold Hid; simp [Value.oneCell']
  go_upto_region 2 with (first | refine wpList_load_at 32 rfl (.tmp 6) rfl _ _ rfl _ LD.out ?_ | refine wpList_alloc_cmd rfl rfl ?_ | refine wpList_store_cmd rfl (.tmp 4) (.tmp 7) rfl #[.int .i64 kd, .int .i64 ci, .int .i64 ir, .int .i64 bt, .int .i64 si, .int .i64 q1, .int .i64 q2, .int .i64 q3, .int .i64 q4, .int .i64 q5, .int .i64 q6, .int .i64 q7, .int .i64 n1, .int .i64 n2, .int .i64 n3, .int .i64 n4, .int .i64 n5, .int .i64 t1, .int .i64 t2, .int .i64 c, .int .i64 m, .int .i64 wk, .slice ta tn tc, .int .i64 st] rfl rfl rfl ONE.out ?_)
  clear LD
  have BC := hid (Box.alloc WA #[.int .i64 kd, .int .i64 ci, .int .i64 ir, .int .i64 bt, .int .i64 si, .int .i64 q1, .int .i64 q2, .int .i64 q3, .int .i64 q4, .int .i64 q5, .int .i64 q6, .int .i64 q7, .int .i64 n1, .int .i64 n2, .int .i64 n3, .int .i64 n4, .int .i64 n5, .int .i64 t1, .int .i64 t2, .int .i64 c, .int .i64 m, .int .i64 wk, .slice ta tn tc, .int .i64 st] (32))
  replace BX := hid (BX.out.below ((Below.refl WA.heap.size WA).alloc (Nat.le_refl _) (.cells #[.int .i64 kd, .int .i64 ci, .int .i64 ir, .int .i64 bt, .int .i64 si, .int .i64 q1, .int .i64 q2, .int .i64 q3, .int .i64 q4, .int .i64 q5, .int .i64 q6, .int .i64 q7, .int .i64 n1, .int .i64 n2, .int .i64 n3, .int .i64 n4, .int .i64 n5, .int .i64 t1, .int .i64 t2, .int .i64 c, .int .i64 m, .int .i64 wk, .slice ta tn tc, .int .i64 st] 32)))
  replace B0 := hid (B0.out.alloc (by have := Hz.out; omega) (.cells #[.int .i64 kd, .int .i64 ci, .int .i64 ir, .int .i64 bt, .int .i64 si, .int .i64 q1, .int .i64 q2, .int .i64 q3, .int .i64 q4, .int .i64 q5, .int .i64 q6, .int .i64 q7, .int .i64 n1, .int .i64 n2, .int .i64 n3, .int .i64 n4, .int .i64 n5, .int .i64 t1, .int .i64 t2, .int .i64 c, .int .i64 m, .int .i64 wk, .slice ta tn tc, .int .i64 st] 32))
  have hz : (WA.alloc (.cells #[.int .i64 kd, .int .i64 ci, .int .i64 ir, .int .i64 bt, .int .i64 si, .int .i64 q1, .int .i64 q2, .int .i64 q3, .int .i64 q4, .int .i64 q5, .int .i64 q6, .int .i64 q7, .int .i64 n1, .int .i64 n2, .int .i64 n3, .int .i64 n4, .int .i64 n5, .int .i64 t1, .int .i64 t2, .int .i64 c, .int .i64 m, .int .i64 wk, .slice ta tn tc, .int .i64 st] 32)).heap.size = w.heap.size + 2 := by have := Hz.out; simp; omega
  have HzA := Hz
  replace Hz := hid hz
  clear hz
  generalize (WA.alloc (.cells #[.int .i64 kd, .int .i64 ci, .int .i64 ir, .int .i64 bt, .int .i64 si, .int .i64 q1, .int .i64 q2, .int .i64 q3, .int .i64 q4, .int .i64 q5, .int .i64 q6, .int .i64 q7, .int .i64 n1, .int .i64 n2, .int .i64 n3, .int .i64 n4, .int .i64 n5, .int .i64 t1, .int .i64 t2, .int .i64 c, .int .i64 m, .int .i64 wk, .slice ta tn tc, .int .i64 st] 32)) = W0 at *
  have hqa : WA.heap.size = w.heap.size + 1 := HzA.out
  rw [hqa] at BC
  simp only [hqa]
  clear hqa HzA
  by_cases c1 : 1024 < tn
  · have hE : encE tn kd = 3 := by simp [encE, c1]
    have d1 : decide ((1024 : Int) < (tn : Int)) = true := by simp; omega
    have y := BC.out 22 (.slice ta tn tc) rfl
    go_wp2_with fail
    refine bodyPost_ret (v := .tuple #[.slice none 0 0, .int .i64 3]) (by simp [results, Try.results13, go_sem]) rfl ⟨_, by rw [hE], by omega, fun _ => rfl, B0.out⟩
  have d1 : decide ((1024 : Int) < (tn : Int)) = false := by simp; omega
  by_cases c2 : kd < 0
  · have hE : encE tn kd = 1 := by simp [encE, c1, c2]
    have d2 : decide (kd < 0) = true := by simp; omega
    have y := BC.out 22 (.slice ta tn tc) rfl
    have y0 := BC.out 0 (.int .i64 kd) rfl
    go_wp2_with fail
    refine bodyPost_ret (v := .tuple #[.slice none 0 0, .int .i64 1]) (by simp [results, Try.results13, go_sem]) rfl ⟨_, by rw [hE], by omega, fun _ => rfl, B0.out⟩
  have hE : Hid (encE tn kd = 0) := by unfold Hid; simp [encE, c1, c2]
  have d2 : decide (kd < 0) = false := by simp; omega
  have y := BC.out 22 (.slice ta tn tc) rfl
  have y0 := BC.out 0 (.int .i64 kd) rfl
  go_upto_region 6 with fail
  clear d1 d2 y y0
  have C1 := hid (put_lit (w.heap.size + 2) (.slice none 0 0) [] [gp, cl, sq] W0 (nilO _ _) (by rw [Hz.out]; exact Nat.le_refl _) #[.int .i64 gp, .int .i64 cl, .int .i64 sq] rfl 3 rfl (by decide) (by intro x hx; simp only [List.mem_cons, List.not_mem_nil, or_false] at hx; rcases hx with rfl | rfl | rfl <;> assumption) (by simp))
  have y0 := BX.out 0 (.int .i64 gp) rfl
  have y1 := BX.out 1 (.int .i64 cl) rfl
  have y2 := BX.out 2 (.int .i64 sq) rfl
  go_wp2_with fail
  with_reducible refine C1.out.mono ?_
  clear y0 y1 y2
  rintro e W1 ⟨v1, rfl, h1, k1⟩
  rw [List.nil_append] at h1
  replace BC := hid (BC.out.pk k1 (by intro e; cases e))
  have H1 := hid h1
  have B1 := hid (B0.out.trans (k1.below (base := w.heap.size) (by have := Hz.out; omega) (by intro g e; cases e)))
  have s1 : Hid (w.heap.size + 2 ≤ W1.heap.size) := by unfold Hid; have := k1.size; have := Hz.out; omega
  clear C1 h1 k1 BX B0 Hz
  have R := hid (rnum_any kd W1 (by omega) (by have := ikd.2; omega))
  have y0 := BC.out 0 (.int .i64 kd) rfl
  have z1 := ikd.1
  have z2 := ikd.2
  have bl1 := hid (bytesZ_len [gp, cl, sq])
  have bl2 := hid (numB_len kd)
  have bl2' := hid (shelf_le kd)
  have KZ : Hid (kindZ kd = numB kd) := by unfold Hid kindZ; rw [if_neg (by omega)]
  generalize hsz : 1 + shelf kd = zk at *
  generalize hnb : numB kd = NB at *
  have SZ := hid hsz
  clear hsz hnb
  go_wp2_with fail
  with_reducible refine R.out.mono ?_
  clear y0
  rintro e W2 ⟨v2, rfl, h2, k2⟩
  have H2 := hid (H1.out.below' k2)
  replace BC := hid (BC.out.below k2)
  have B2 := hid (B1.out.trans (k2.mono (by have := s1.out; omega)))
  have s2 : Hid (w.heap.size + 2 ≤ W2.heap.size) := by unfold Hid; have := k2.size; have := s1.out; omega
  obtain ⟨ga, gc, rfl⟩ := h2.form
  have HB8 := hid h2.holds
  clear R h2 k2 H1 B1 s1
  go_wp2_with (at_builtin; refine cat_grow W2 rfl (.tmp 26) (.tmp 30) rfl (w.heap.size + 2) (bytesZ [gp, cl, sq]).length v1 (bytesZ [gp, cl, sq]) rfl H2.out s2.out ga zk gc NB rfl HB8.out (by have := bl1.out; have := bl2'.out; have := SZ.out; simp only [List.length_cons, List.length_nil] at *; omega) ?_)
  intro v3 W3 h3 k3
  have H3 : Hid (Own (w.heap.size + 2) W3 v3 (bytesZ [gp, cl, sq] ++ NB).length (bytesZ [gp, cl, sq] ++ NB)) := by unfold Hid; rw [List.length_append, bl2.out]; exact h3
  replace BC := hid (BC.out.pk k3 (fun e => by have := H2.out.1.lt _ e; omega))
  have B3 := hid (B2.out.trans (k3.below (base := w.heap.size) (by have := s2.out; omega) (fun g e => by have := H2.out.1.lt g e; omega)))
  have s3 : Hid (w.heap.size + 2 ≤ W3.heap.size) := by unfold Hid; have := k3.size; have := s2.out; omega
  clear h3 k3 H2 B2 HB8 s2
  have C4 := hid (put_lit (w.heap.size + 2) v3 (bytesZ [gp, cl, sq] ++ NB) [ci, ir, bt, si] W3 H3.out s3.out #[.int .i64 ci, .int .i64 ir, .int .i64 bt, .int .i64 si] rfl 4 rfl (by decide) (by intro x hx; simp only [List.mem_cons, List.not_mem_nil, or_false] at hx; rcases hx with rfl | rfl | rfl | rfl <;> assumption) (by have := bl1.out; have := bl2.out; have := bl2'.out; have := SZ.out; have := bytesZ_len [ci, ir, bt, si]; have := bytesZ_len [q1, q2, q3, q4, q5, q6, q7]; have := bytesZ_len [n1, n2, n3, n4, n5]; simp only [List.length_append, List.length_cons, List.length_nil] at *; omega))
  have y1 := BC.out 1 (.int .i64 ci) rfl
  have y2 := BC.out 2 (.int .i64 ir) rfl
  have y3 := BC.out 3 (.int .i64 bt) rfl
  have y4 := BC.out 4 (.int .i64 si) rfl
  go_upto_region 9 with (with_reducible refine C4.out.mono ?_)
  clear y1 y2 y3 y4
  rintro e W4 ⟨v4, rfl, h4, k4⟩
  have H4 := hid h4
  replace BC := hid (BC.out.pk k4 (fun e => by have := H3.out.1.lt _ e; omega))
  have B4 := hid (B3.out.trans (k4.below (base := w.heap.size) (by have := s3.out; omega) (fun g e => by have := H3.out.1.lt g e; omega)))
  have s4 : Hid (w.heap.size + 2 ≤ W4.heap.size) := by unfold Hid; have := k4.size; have := s3.out; omega
  clear C4 h4 k4 H3 B3 s3
  generalize hl4 : (bytesZ [gp, cl, sq] ++ NB) ++ bytesZ [ci, ir, bt, si] = L4 at *
  have E4 := hid hl4
  have m4 : Hid (L4.length ≤ 100) := by unfold Hid; rw [← hl4]; have := bl1.out; have := bl2.out; have := bl2'.out; have := SZ.out; have := bytesZ_len [ci, ir, bt, si]; simp only [List.length_append, List.length_cons, List.length_nil] at *; omega
  clear hl4
  go_upto_region 9 with fail
  refine wp_region_held_drew (S := fun W => Box W (w.heap.size + 1) #[.int .i64 kd, .int .i64 ci, .int .i64 ir, .int .i64 bt, .int .i64 si, .int .i64 q1, .int .i64 q2, .int .i64 q3, .int .i64 q4, .int .i64 q5, .int .i64 q6, .int .i64 q7, .int .i64 n1, .int .i64 n2, .int .i64 n3, .int .i64 n4, .int .i64 n5, .int .i64 t1, .int .i64 t2, .int .i64 c, .int .i64 m, .int .i64 wk, .slice ta tn tc, .int .i64 st]) (by kernel_rfl) (BC.out.below (Below.drew (Below.refl _ _))) (fun hHeld => ?_)
  have HD := hid (H4.out.below' (Below.drew (Below.refl W4.heap.size W4)))
  have BD := hid (B4.out.drew)
  replace BC := hid (BC.out.below (Below.drew (Below.refl _ _)))
  have sd : Hid (w.heap.size + 2 ≤ W4.drew.heap.size) := s4.out
  clear H4 B4 s4
  generalize W4.drew = WD at *
  refine wpAnyH_take (i := 0) (v := v4) rfl (by kernel_rfl) (by kernel_rfl) (by kernel_rfl) (fun _ _ _ h => h) (Or.inl ⟨by rfl, ?_⟩) (by assumption) ?_
  · (intro w hSw; (try dsimp only at hSw); go_simp)
  (try simp only [Act.put, List.getElem_toArray, List.getElem_cons_succ, List.getElem_cons_zero, List.setIfInBounds_toArray, List.set_cons_zero, List.set_cons_succ])
  refine wpAnyH_take (i := 1) (v := .pointer (some ⟨w.heap.size + 1, 5, none⟩)) rfl (by kernel_rfl) (by kernel_rfl) (by kernel_rfl) (fun _ _ _ h => h) (Or.inl ⟨by rfl, ?_⟩) (by assumption) ?_
  · (intro w hSw; (try dsimp only at hSw); go_simp)
  (try simp only [Act.put, List.getElem_toArray, List.getElem_cons_succ, List.getElem_cons_zero, List.setIfInBounds_toArray, List.set_cons_zero, List.set_cons_succ])
  refine wpAnyH_take (i := 2) (v := .agg #[.int .i64 q1, .int .i64 q2, .int .i64 q3, .int .i64 q4, .int .i64 q5, .int .i64 q6, .int .i64 q7]) rfl (by kernel_rfl) (by kernel_rfl) (by kernel_rfl) (fun _ _ _ h => h) (yieldsIf_load_mid (by rfl) 25 (.tmp 44) rfl (w.heap.size + 1) 5 rfl [.int .i64 q1, .int .i64 q2, .int .i64 q3, .int .i64 q4, .int .i64 q5, .int .i64 q6, .int .i64 q7] _ (fun W hW => Box.mid hW 5 7 [.int .i64 q1, .int .i64 q2, .int .i64 q3, .int .i64 q4, .int .i64 q5, .int .i64 q6, .int .i64 q7] rfl) Try.underlying25 rfl sizeQue) (by assumption) ?_
  (try simp only [Act.put, List.getElem_toArray, List.getElem_cons_succ, List.getElem_cons_zero, List.setIfInBounds_toArray, List.set_cons_zero, List.set_cons_succ])
  refine wpAnyH_take (i := 5) (v := .pointer (some ⟨w.heap.size + 1, 12, none⟩)) rfl (by kernel_rfl) (by kernel_rfl) (by kernel_rfl) (fun _ _ _ h => h) (Or.inl ⟨by rfl, ?_⟩) (by assumption) ?_
  · (intro w hSw; (try dsimp only at hSw); go_simp)
  (try simp only [Act.put, List.getElem_toArray, List.getElem_cons_succ, List.getElem_cons_zero, List.setIfInBounds_toArray, List.set_cons_zero, List.set_cons_succ])
  refine wpAnyH_take (i := 6) (v := .agg #[.int .i64 n1, .int .i64 n2, .int .i64 n3, .int .i64 n4, .int .i64 n5]) rfl (by kernel_rfl) (by kernel_rfl) (by kernel_rfl) (fun _ _ _ h => h) (yieldsIf_load_mid (by rfl) 27 (.tmp 48) rfl (w.heap.size + 1) 12 rfl [.int .i64 n1, .int .i64 n2, .int .i64 n3, .int .i64 n4, .int .i64 n5] _ (fun W hW => Box.mid hW 12 5 [.int .i64 n1, .int .i64 n2, .int .i64 n3, .int .i64 n4, .int .i64 n5] rfl) Try.underlying27 rfl sizeNod) (by assumption) ?_
  (try simp only [Act.put, List.getElem_toArray, List.getElem_cons_succ, List.getElem_cons_zero, List.setIfInBounds_toArray, List.set_cons_zero, List.set_cons_succ])
  have CQ := hid (rqueue_any q1 q2 q3 q4 q5 q6 q7 WD)
  refine wpAnyH_ready (rs := [3]) (by kernel_rfl) (by simp) ?_
  refine AllReadyH.cons rfl (fun K hK => ?_) AllReadyH.nil
  go_simp
  with_reducible refine CQ.out.mono ?_
  rintro e W5 ⟨g5, rfl, hg5, hq5, kq5⟩
  replace BC := hid (BC.out.below kq5)
  have H5 := hid (HD.out.below' kq5)
  have B5 := hid (BD.out.trans (kq5.mono (by have := sd.out; omega)))
  have s5 : Hid (w.heap.size + 2 ≤ W5.heap.size) := by unfold Hid; have := kq5.size; have := sd.out; omega
  have CP := hid (put_any (w.heap.size + 2) v4 (L4) (some ⟨g5, 0, none⟩) 7 7 [q1, q2, q3, q4, q5, q6, q7] W5 H5.out s5.out hq5 (fun b o e _ => by cases e; exact fun e2 => by have := HD.out.1.lt _ e2; omega) (by intro x hx; simp only [List.mem_cons, List.not_mem_nil, or_false] at hx; rcases hx with rfl | rfl | rfl | rfl | rfl | rfl | rfl <;> assumption) (by have := m4.out; have := bytesZ_len [q1, q2, q3, q4, q5, q6, q7]; have := bytesZ_len [n1, n2, n3, n4, n5]; simp only [List.length_append, List.length_cons, List.length_nil] at *; omega))
  refine hK.out _ _ BC.out (fun hHeld => ?_)
  clear hK K
  (try simp only [Act.put, List.getElem_toArray, List.getElem_cons_succ, List.getElem_cons_zero, List.setIfInBounds_toArray, List.set_cons_zero, List.set_cons_succ])
  clear CQ hg5 hq5 kq5 HD BD sd
  refine wpAnyH_ready (rs := [4]) (by kernel_rfl) (by simp) ?_
  refine AllReadyH.cons rfl (fun K hK => ?_) AllReadyH.nil
  go_simp
  with_reducible refine CP.out.mono ?_
  rintro e W6 ⟨v6, rfl, h6, k6⟩
  have H6 := hid h6
  replace BC := hid (BC.out.pk k6 (fun e => by have := H5.out.1.lt _ e; omega))
  have B6 := hid (B5.out.trans (k6.below (base := w.heap.size) (by have := s5.out; omega) (fun g e => by have := H5.out.1.lt g e; omega)))
  have s6 : Hid (w.heap.size + 2 ≤ W6.heap.size) := by unfold Hid; have := k6.size; have := s5.out; omega
  refine hK.out _ _ BC.out (fun hHeld => ?_)
  clear hK K
  (try simp only [Act.put, List.getElem_toArray, List.getElem_cons_succ, List.getElem_cons_zero, List.setIfInBounds_toArray, List.set_cons_zero, List.set_cons_succ])
  clear CP h6 k6 H5 B5 s5
  have CQ := hid (rnode_any n1 n2 n3 n4 n5 W6)
  refine wpAnyH_ready (rs := [7]) (by kernel_rfl) (by simp) ?_
  refine AllReadyH.cons rfl (fun K hK => ?_) AllReadyH.nil
  go_simp
  with_reducible refine CQ.out.mono ?_
  rintro e W7 ⟨g7, rfl, hg7, hq7, kq7⟩
  replace BC := hid (BC.out.below kq7)
  have H7 := hid (H6.out.below' kq7)
  have B7 := hid (B6.out.trans (kq7.mono (by have := s6.out; omega)))
  have s7 : Hid (w.heap.size + 2 ≤ W7.heap.size) := by unfold Hid; have := kq7.size; have := s6.out; omega
  have CP := hid (put_any (w.heap.size + 2) v6 (L4 ++ bytesZ [q1, q2, q3, q4, q5, q6, q7]) (some ⟨g7, 0, none⟩) 5 5 [n1, n2, n3, n4, n5] W7 H7.out s7.out hq7 (fun b o e _ => by cases e; exact fun e2 => by have := H6.out.1.lt _ e2; omega) (by intro x hx; simp only [List.mem_cons, List.not_mem_nil, or_false] at hx; rcases hx with rfl | rfl | rfl | rfl | rfl <;> assumption) (by have := m4.out; have := bytesZ_len [q1, q2, q3, q4, q5, q6, q7]; have := bytesZ_len [n1, n2, n3, n4, n5]; simp only [List.length_append, List.length_cons, List.length_nil] at *; omega))
  refine hK.out _ _ BC.out (fun hHeld => ?_)
  clear hK K
  (try simp only [Act.put, List.getElem_toArray, List.getElem_cons_succ, List.getElem_cons_zero, List.setIfInBounds_toArray, List.set_cons_zero, List.set_cons_succ])
  clear CQ hg7 hq7 kq7 H6 B6 s6
  refine wpAnyH_ready (rs := [8]) (by kernel_rfl) (by simp) ?_
  refine AllReadyH.cons rfl (fun K hK => ?_) AllReadyH.nil
  go_simp
  with_reducible refine CP.out.mono ?_
  rintro e W8 ⟨v8, rfl, h8, k8⟩
  have H8 := hid h8
  replace BC := hid (BC.out.pk k8 (fun e => by have := H7.out.1.lt _ e; omega))
  have B8 := hid (B7.out.trans (k8.below (base := w.heap.size) (by have := s7.out; omega) (fun g e => by have := H7.out.1.lt g e; omega)))
  have s8 : Hid (w.heap.size + 2 ≤ W8.heap.size) := by unfold Hid; have := k8.size; have := s7.out; omega
  refine hK.out _ _ BC.out (fun hHeld => ?_)
  clear hK K
  (try simp only [Act.put, List.getElem_toArray, List.getElem_cons_succ, List.getElem_cons_zero, List.setIfInBounds_toArray, List.set_cons_zero, List.set_cons_succ])
  clear CP h8 k8 H7 B7 s7
  refine wpAnyH_ready (rs := [9]) (by kernel_rfl) (by simp) ?_
  refine AllReadyH.cons rfl (fun K hK => ?_) AllReadyH.nil
  go_simp
  refine hK.out _ _ BC.out (fun hHeld => ?_)
  clear hK K
  (try simp only [Act.put, List.getElem_toArray, List.getElem_cons_succ, List.getElem_cons_zero, List.setIfInBounds_toArray, List.set_cons_zero, List.set_cons_succ])
  refine wpAnyH_done (by kernel_rfl) ?_ _
  clear hHeld
  generalize hl8 : L4 ++ bytesZ [q1, q2, q3, q4, q5, q6, q7] ++ bytesZ [n1, n2, n3, n4, n5] = L8 at *
  have E8 := hid hl8
  have m8 : Hid (L8.length ≤ 300) := by unfold Hid; rw [← hl8]; have := m4.out; have := bytesZ_len [q1, q2, q3, q4, q5, q6, q7]; have := bytesZ_len [n1, n2, n3, n4, n5]; simp only [List.length_append, List.length_cons, List.length_nil] at *; omega
  clear hl8
  have CT := hid (rtask_any t1 t2 c m wk ta tn tc tk st W8 it1 it2 ic im iwk ist (HT.out.below B8.out) HX.out (by omega))
  have y17 := BC.out 17 (.int .i64 t1) rfl
  have y18 := BC.out 18 (.int .i64 t2) rfl
  have y19 := BC.out 19 (.int .i64 c) rfl
  have y20 := BC.out 20 (.int .i64 m) rfl
  have y21 := BC.out 21 (.int .i64 wk) rfl
  have y22 := BC.out 22 (.slice ta tn tc) rfl
  have y23 := BC.out 23 (.int .i64 st) rfl
  have tz := hid (taskZ_len t1 t2 c m wk tk st)
  go_wp2_with fail
  with_reducible refine CT.out.mono ?_
  clear y17 y18 y19 y20 y21 y22 y23
  rintro e W9 ⟨v9, rfl, h9, k9⟩
  have H9 := hid (H8.out.below' k9)
  have B9 := hid (B8.out.trans (k9.mono (by have := s8.out; omega)))
  have s9 : Hid (w.heap.size + 2 ≤ W9.heap.size) := by unfold Hid; have := k9.size; have := s8.out; omega
  obtain ⟨ga, gc, rfl⟩ := h9.form
  have HB9 := hid h9.holds
  clear CT h9 k9 H8 B8 s8 BC
  generalize hT : taskZ t1 t2 c m wk tk st = TZ at *
  have ET := hid hT
  clear hT
  generalize hz : TZ.length = zt at *
  have EZ := hid hz
  clear hz
  go_wp2_with (at_builtin; refine cat_grow W9 rfl (.tmp 52) (.tmp 55) rfl (w.heap.size + 2) L8.length v8 L8 rfl H9.out s9.out ga zt gc TZ rfl HB9.out (by have := m8.out; have := tz.out; omega) ?_)
  intro vA WA' hA kA
  have HA := hid hA
  have BA := hid (B9.out.trans (kA.below (base := w.heap.size) (by have := s9.out; omega) (fun g e => by have := H9.out.1.lt g e; omega)))
  clear hA kA
  go_wp2_with fail
  refine bodyPost_ret (v := .tuple #[vA, .int .i64 0]) (by simp [results, Try.results13, go_sem]) rfl ⟨_, by rw [hE.out], fun _ => ?_, fun h => absurd hE.out h, BA.out⟩
  have EE : entZ gp cl sq (cmdZ kd ci ir bt si (bytesZ [q1, q2, q3, q4, q5, q6, q7]) (bytesZ [n1, n2, n3, n4, n5]) TZ) = L8 ++ TZ := by
    rw [← E8.out, ← E4.out]
    unfold entZ cmdZ
    rw [KZ.out]
    simp only [List.append_assoc]
  rw [ET.out, EE, List.length_append, EZ.out]
  exact HA.out.base (by omega)
end Go.Proofs.Ythkbddnkcljjpaa
