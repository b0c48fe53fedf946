/-
  Contracts of furlongref10: whole numbers behind bytes.
-/
import Derived.Test.YtkjglpgjflkmbaaCG
import Derived.Test.YtkjglpgjflkmbaaSE
namespace Go.Proofs.Ytkjglpgjflkmbaa
open Go.RowKit Go.Deep
set_option linter.unusedVariables false
set_option linter.unusedSimpArgs false

/-- What is left as it was when bytes grow behind 'v'. -/
def PK (v : Value) (W W' : World) (v' : Value) : Prop := ∀ p, WK p v W W' v'
theorem PK.refl (v : Value) (W : World) : PK v W W v := fun p => WK.refl p v W
theorem PK.trans {v v1 v2 : Value} {A B C : World} (h : PK v A B v1) (k : PK v1 B C v2) : PK v A C v2 := fun p => (h p).trans (k p)
theorem PK.of_below {v : Value} {A B : World} (h : Below A.heap.size A B) : PK v A B v := fun p => WK.of_below h
theorem PK.of_grown {v v' : Value} {A B : World} (hg : A.grownBy B v.ownBlock) (hv : v'.ownBlock = v.ownBlock ∨ v'.ownBlock = some A.heap.size) : PK v A B v' := fun p =>
  ⟨hg.os, hg.tape, hg.output, hg.size, fun b hb _ h2 => hg.block b hb (fun e => h2 e.symm), fun g e => by
    rcases hv with hv | hv
    · exact .inl (hv ▸ e)
    · rw [hv] at e; cases e; exact .inr (Nat.le_refl _)⟩
theorem PK.cell {v v' : Value} {A B : World} (h : PK v A B v') {a : Addr} {u : Value} (hc : A.cell? a = some u) (h2 : v.ownBlock ≠ some a.block) : B.cell? a = some u :=
  (h (a.block + 1)).cell hc (by omega) h2
theorem PK.size {v v' : Value} {A B : World} (h : PK v A B v') : A.heap.size ≤ B.heap.size := WK.size (h 0)
theorem PK.below {v v' : Value} {A B : World} {base : Nat} (h : PK v A B v') (hb : base ≤ A.heap.size) (hv : ∀ g, v.ownBlock = some g → base ≤ g) : Below base A B :=
  ⟨(h 0).os, (h 0).tape, (h 0).output, (h 0).size, fun b hlt => (h (b + 1)).block b (by omega) (by omega) (fun e => by have := hv b e; omega)⟩

section
variable {ops : Array Oper} {rest : List Oper} {o : Oper} {a : Act} {Q : Exit → Act → World → Prop}
theorem cat_grow (wr : World) (hg : o.guard = none) (s y : Operand) (hop : o.op = Op.call { callee := Callee.builtin Builtin.append, args := #[s, y], argTypes := #[37, 37] })
    (base n : Nat) (v : Value) (l : List Int) (hs : a.eval s = v) (hown : Own base wr v n l) (hb : base ≤ wr.heap.size) (ao : Option Addr) (m c : Nat) (p : List Int) (hx : a.eval y = .slice ao m c) (hp : HoldsB wr ao m c p) (b1 : n + m ≤ 140737488355328)
    (hK : ∀ v' w', Own base w' v' (n + m) (l ++ p) → PK v wr w' v' → wpList Try.prog ops Q rest (a.put o.dst v') w') :
    wpList Try.prog ops Q (o :: rest) a wr := by
  refine wpList_plain hg fun K hk => ?_
  have h := appB_step (ops := ops) (Q := Q) (K := K) wr hg s y hop base n v l hs hown hb ao m c p hx hp b1 (fun v' w' h1 h2 h3 => hk _ _ (hK v' w' h1 (PK.of_grown h2 h3)))
  rwa [if_pos (by simp [Region.wanted, hg])] at h
end

set_option maxRecDepth 100000 in
set_option maxHeartbeats 4000000 in
theorem put_any (base : Nat) (v0 : Value) (l0 : List Int) (ao : Option Addr) (n c : Nat) (xs : List Int) (w : World) (ho : Own base w v0 l0.length l0) (hb : base ≤ w.heap.size) (ha : HoldsN w ao n c xs) (hne : ∀ b o, ao = some ⟨b, o, none⟩ → 0 < n → v0.ownBlock ≠ some b) (hx : ∀ x ∈ xs, I64 x) (hm : l0.length + 9 * n ≤ 140737488355328) :
    Calls Try.prog 33 #[v0, .slice ao n c] w fun e w' => ∃ v', e = .returned v' ∧ Own base w' v' (l0 ++ bytesZ xs).length (l0 ++ bytesZ xs) ∧ PK v0 w w' v' := by
  have HO := hid ho
  have HA := hid ha
  have HX := hid hx
  have HN := hid ha.1
  have hcap := ha.2.1
  have hcm := ha.2.2.1
  obtain ⟨va0, vc0, rfl⟩ := ho.form
  clear ho ha hx
  go_enter Try.func33, Try.ntmps33
  go_wp2_with fail
  go_loopw [0, 9] (fun v i wr => ∃ k : Nat, k ≤ n ∧ i = .int .i64 (k : Int) ∧ Hid (Own base wr v (l0 ++ bytesZ (xs.take k)).length (l0 ++ bytesZ (xs.take k))) ∧ Hid (PK (.slice va0 l0.length vc0) w wr v)) (fun _ i _ => n - (intOf i).toNat)
  case atStart => exact ⟨0, by omega, rfl, by unfold Hid; simpa [bytesZ] using HO.out, PK.refl _ _⟩
  case round =>
    obtain ⟨k, hk, rfl, HW, K0⟩ := hrel
    by_cases hlt : k < n
    · have hlt' : k < xs.length := by rw [HN.out]; exact hlt
      obtain ⟨ab, ao', e, RI⟩ := HA.out.rowN (by omega)
      cases e
      have c0 := K0.out.cell (RI k hlt) (hne _ _ rfl (by omega))
      have SN := hid (bytesZ_snoc hlt')
      have hbl := bytesZ_len (xs.take k)
      have hxk : I64 (xs[k]?.getD 0) := HX.out _ (by rw [List.getElem?_eq_getElem hlt']; exact List.getElem_mem hlt')
      have ka : (0 : Int) ≤ (k : Int) := by omega
      have kb : (k : Int) < (n : Int) := by omega
      have hl9 : (l0 ++ bytesZ (xs.take k)).length + 9 ≤ 140737488355328 := by
        rw [List.length_append]
        rw [List.length_take] at hbl
        omega
      clear RI hbl
      generalize xs[k]?.getD 0 = x at *
      have LAY := hid (fun W => rwhole_any x W hxk)
      have hn9 : 1 + shelf (zig x) ≤ 9 := by have := shelf_le (zig x); omega
      have hnl := numB_len (zig x)
      clear hxk
      generalize hll : l0 ++ bytesZ (xs.take k) = l at *
      have HLL := hid hll
      clear hll
      generalize numB (zig x) = BS at *
      generalize hsz : 1 + shelf (zig x) = z at *
      clear hsz
      go_wp2_with fail
      with_reducible refine (LAY.out _).mono ?_
      rintro e x1 ⟨g, rfl, o1, b1⟩
      have HR := hid (HW.out.below' b1)
      obtain ⟨ga, gc, rfl⟩ := o1.form
      have HB8 := hid o1.holds
      have KR := hid (K0.out.trans (PK.of_below b1))
      have hbs := Nat.le_trans hb KR.out.size
      clear o1 b1 c0 HW K0
      go_wp2_with (at_builtin; refine cat_grow x1 rfl (.tmp 13) (.tmp 15) rfl base l.length _ l rfl HR.out hbs ga z gc BS rfl HB8.out (by omega) ?_)
      intro v' w9 oo kk
      have OO := hid oo
      have KK := hid (KR.out.trans kk)
      clear oo kk
      go_wp2_with fail
      refine ⟨⟨k + 1, by omega, by go_num, by rw [SN.out, ← List.append_assoc, HLL.out, List.length_append, hnl]; exact OO.out, KK.out⟩, ?_⟩
      simp [intOf]; omega
    · have : k = n := by omega
      subst this
      have kb : ¬ ((k : Int) < (k : Int)) := by omega
      have HT : Hid (xs.take k = xs) := by unfold Hid; rw [← HN.out]; exact List.take_length
      go_wp2_with fail
      go_ret
      rw [HT.out] at HW
      refine ⟨_, rfl, ?_, K0.out⟩
      have h := HW.out
      rw [List.length_append] at h
      exact h
end Go.Proofs.Ytkjglpgjflkmbaa
