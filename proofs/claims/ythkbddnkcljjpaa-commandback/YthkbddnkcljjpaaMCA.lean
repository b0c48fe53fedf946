/-
  Contracts of command: the writer.
  Contracts of command: the writer's numbers.
  Contracts of command: the writer's methods.
  Contracts of command: the writer's kinds and lists.
  Contracts of command: a task, a command, an entry are written.
  Contracts of command: an entry is written.
  Contracts of command: an entry is encoded.
-/
import Derived.Test.YthkbddnkcljjpaaSD
import Derived.Test.YthkbddnkcljjpaaHE
import Derived.Maps.AppendAt
import Derived.Deep.RegionHeld
import Derived.Deep.RegionHeld3
import Derived.Deep.Cut
namespace Go.Proofs.Ythkbddnkcljjpaa
open Go.RowKit Go.Deep
set_option linter.unusedVariables false
set_option linter.unusedSimpArgs false

/-- What a writer's method leaves: all blocks but the writer and its row of bytes are as they were; the row is the old one, or a new one. -/
structure WK (p : Nat) (v : Value) (W W' : World) (v' : Value) : Prop where
  os : W'.os = W.os
  tape : W'.tape = W.tape
  output : W'.output = W.output
  size : W.heap.size ≤ W'.heap.size
  block : ∀ b, b < W.heap.size → b ≠ p → v.ownBlock ≠ some b → W'.heap[b]? = W.heap[b]?
  row : ∀ g, v'.ownBlock = some g → v.ownBlock = some g ∨ W.heap.size ≤ g
theorem WK.refl (p : Nat) (v : Value) (W : World) : WK p v W W v := ⟨rfl, rfl, rfl, Nat.le_refl _, fun _ _ _ _ => rfl, fun _ h => .inl h⟩
theorem WK.trans {p : Nat} {v v1 v2 : Value} {A B C : World} (h : WK p v A B v1) (k : WK p v1 B C v2) : WK p v A C v2 := by
  refine ⟨k.os.trans h.os, k.tape.trans h.tape, k.output.trans h.output, Nat.le_trans h.size k.size, fun b hb h1 h2 => ?_, fun g hg => ?_⟩
  · refine (k.block b (Nat.lt_of_lt_of_le hb h.size) h1 (fun e => ?_)).trans (h.block b hb h1 h2)
    rcases h.row b e with e1 | e1
    · exact h2 e1
    · omega
  · rcases k.row g hg with e | e
    · exact h.row g e
    · exact .inr (Nat.le_trans h.size e)
/-- What only makes memory. -/
theorem WK.of_below {p : Nat} {v : Value} {A B : World} (h : Below A.heap.size A B) : WK p v A B v := ⟨h.os, h.tape, h.output, h.size, fun b hb _ _ => h.block b hb, fun _ e => .inl e⟩
theorem WK.below {p : Nat} {v v' : Value} {A B : World} (h : WK p v A B v') (hp : p < A.heap.size) (hv : ∀ g, v.ownBlock = some g → p < g) : Below p A B :=
  ⟨h.os, h.tape, h.output, h.size, fun b hb => h.block b (by omega) (by omega) (fun e => by have := hv b e; omega)⟩
/-- A cell that is neither the writer's nor its row's. -/
theorem WK.cell {p : Nat} {v v' : Value} {A B : World} (h : WK p v A B v') {a : Addr} {u : Value} (hc : A.cell? a = some u) (h1 : a.block ≠ p) (h2 : v.ownBlock ≠ some a.block) : B.cell? a = some u :=
  (World.cell?_of_block (h.block a.block (World.block_lt_of_cell? _ _ hc) h1 h2)).trans hc
/-- The writer's cells. -/
def WrC (W : World) (p : Nat) (v : Value) (lg bz : Bool) : Prop := (W.cell? ⟨p, 0, none⟩ = some v ∧ W.cell? ⟨p, 1, none⟩ = some (.bool lg) ∧ W.cell? ⟨p, 2, none⟩ = some (.bool bz)) ∧ W.frozen? ⟨p, 0, none⟩ = false ∧ W.frozen? ⟨p, 1, none⟩ = false ∧ W.frozen? ⟨p, 2, none⟩ = false
/-- The writer, with what it has written. -/
def Wr (W : World) (p : Nat) (v : Value) (l : List Int) (lg bz : Bool) : Prop := WrC W p v lg bz ∧ Own (p + 1) W v l.length l
theorem Wr.lt {W : World} {p : Nat} {v : Value} {l : List Int} {lg bz : Bool} (h : Wr W p v l lg bz) : p < W.heap.size := World.block_lt_of_cell? _ _ h.1.1.1
theorem Wr.row {W : World} {p : Nat} {v : Value} {l : List Int} {lg bz : Bool} (h : Wr W p v l lg bz) : ∀ g, v.ownBlock = some g → p < g ∧ g < W.heap.size := fun g hg => by
  have := h.2.1.lt g hg; omega
theorem WrC.below {W W' : World} {p : Nat} {v : Value} {lg bz : Bool} (h : WrC W p v lg bz) (hb : Below W.heap.size W W') : WrC W' p v lg bz := by
  obtain ⟨⟨h1, h2, h3⟩, f1, f2, f3⟩ := h
  exact ⟨⟨keepc hb h1, keepc hb h2, keepc hb h3⟩, keepf hb h1 f1, keepf hb h2 f2, keepf hb h3 f3⟩
theorem Own.below' {base : Nat} {w w' : World} {v : Value} {n : Nat} {l : List Int} (h : Own base w v n l) (hb : Below w.heap.size w w') : Own base w' v n l := by
  refine ⟨?_, h.2⟩
  obtain ⟨h0, h1⟩ := h.1
  refine ⟨h0, ?_⟩
  rcases h1 with h1 | ⟨g, cap, cur, hv, hg, hh, r⟩
  · exact .inl h1
  · exact .inr ⟨g, cap, cur, hv, hg, (hb.block g (Array.getElem?_eq_some_iff.1 hh).1).trans hh, r⟩
theorem Wr.below {W W' : World} {p : Nat} {v : Value} {l : List Int} {lg bz : Bool} (h : Wr W p v l lg bz) (hb : Below W.heap.size W W') : Wr W' p v l lg bz := ⟨h.1.below hb, h.2.below' hb⟩

/-- 'append(b, p...)' of bytes, among operations whose order is drawn. -/
theorem appB_step {ops : Array Oper} {o : Oper} {a : Act} {Q : Exit → Act → World → Prop} {K : Act → World → Prop} (wr : World) (hg : o.guard = none) (s y : Operand) (hop : o.op = Op.call { callee := Callee.builtin Builtin.append, args := #[s, y], argTypes := #[37, 37] })
    (base n : Nat) (v : Value) (l : List Int) (hs : a.eval s = v) (hown : Own base wr v n l) (hb : base ≤ wr.heap.size) (ao : Option Addr) (m c : Nat) (p : List Int) (hx : a.eval y = .slice ao m c) (hp : HoldsB wr ao m c p) (b1 : n + m ≤ 140737488355328)
    (hK : ∀ v' w', Own base w' v' (n + m) (l ++ p) → wr.grownBy w' v.ownBlock → (v'.ownBlock = v.ownBlock ∨ v'.ownBlock = some wr.heap.size) → K (a.put o.dst v') w') :
    if Region.wanted o (yielded ops a.tmps) = true then Oper.wp Try.prog o a wr K Q else K (a.put o.dst undef) wr := by
  rw [if_pos (by simp [Region.wanted, hg])]
  obtain ⟨i0, hi, hz0, hz1, hz2⟩ := info_parts info8
  obtain ⟨p1, p2, p3, p4, p5, p6, p7⟩ := hp
  unfold Oper.wp
  by_cases hm : 0 < m
  · obtain ⟨b, off, rfl, hc⟩ := p7 hm
    obtain ⟨v', w', hrun, h3, h2, _, h5⟩ := run_append_own_at (P := Try.prog) wr base 37 o.type 5 i0 (.int .u8 0) 1 1 Try.underlying37 hi hz0 hz1 hz2 rfl (by decide) v n _ hown.1 ⟨b, off, none⟩ m c (p.map (Value.int .u8)) (by simp [p1]) (by
      intro j u hj
      have hjm : j < m := by have := (List.getElem?_eq_some_iff.1 hj).1; simpa [p1] using this
      rw [Addr.add_lit, hc j hjm]
      rw [List.getElem?_map, List.getElem?_eq_getElem (by omega)] at hj
      rw [List.getElem?_eq_getElem (by omega)]
      simpa using hj) (ints_oneCell _ _) (by unfold maxLen; omega) (by omega) hb
    simp [execOp, hop, resolve, invoke, builtin, hs, hx, hrun, Result.andThen]
    exact hK v' w' ⟨by simpa using h3, hown.2.app p5⟩ h2 h5
  · obtain rfl : m = 0 := by omega
    obtain rfl : p = [] := List.length_eq_zero_iff.1 p1
    cases ao with
    | none =>
      obtain ⟨_, rfl⟩ := p6 rfl
      have hrun := run_append_owned_none (P := Try.prog) (w := wr) base 37 o.type 5 i0 1 Try.underlying37 hi v n _ hown.1
      simp [execOp, hop, resolve, invoke, builtin, hs, hx, hrun, Result.andThen]
      exact hK v wr (by simpa using hown) (World.grownBy.refl _ _) (.inl rfl)
    | some ad =>
      obtain ⟨v', w', hrun, h3, h2, _, h5⟩ := run_append_own_at (P := Try.prog) wr base 37 o.type 5 i0 (.int .u8 0) 1 1 Try.underlying37 hi hz0 hz1 hz2 rfl (by decide) v n _ hown.1 ad 0 c [] (by simp) (by simp) (by simp) (by unfold maxLen; omega) (by omega) hb
      simp [execOp, hop, resolve, invoke, builtin, hs, hx, hrun, Result.andThen]
      exact hK v' w' ⟨by simpa using h3, hown.2.app p5⟩ h2 h5
/-- What is written into the writer's field behind an append. -/
theorem wr_put {W w1 : World} {p : Nat} {v v' : Value} {l l' : List Int} {lg bz : Bool} (h : Wr W p v l lg bz) (hg : W.grownBy w1 v.ownBlock) (hv : v'.ownBlock = v.ownBlock ∨ v'.ownBlock = some W.heap.size) (ho : Own (p + 1) w1 v' l'.length l') :
    Wr (w1.setCell ⟨p, 0, none⟩ v') p v' l' lg bz ∧ WK p v W (w1.setCell ⟨p, 0, none⟩ v') v' := by
  have hp := h.lt
  have hr := h.row
  have hblk : w1.heap[p]? = W.heap[p]? := hg.block p hp (fun e => by have := hr p e.symm; omega)
  obtain ⟨⟨⟨c1, c2, c3⟩, f1, f2, f3⟩, _⟩ := h
  have d1 : w1.cell? ⟨p, 0, none⟩ = some v := (World.cell?_of_block hblk).trans c1
  have d2 : w1.cell? ⟨p, 1, none⟩ = some (.bool lg) := (World.cell?_of_block hblk).trans c2
  have d3 : w1.cell? ⟨p, 2, none⟩ = some (.bool bz) := (World.cell?_of_block hblk).trans c3
  have g1 : w1.frozen? ⟨p, 0, none⟩ = false := (World.frozen?_of_block hblk).trans f1
  have g2 : w1.frozen? ⟨p, 1, none⟩ = false := (World.frozen?_of_block hblk).trans f2
  have g3 : w1.frozen? ⟨p, 2, none⟩ = false := (World.frozen?_of_block hblk).trans f3
  refine ⟨⟨⟨⟨?_, ?_, ?_⟩, ?_, ?_, ?_⟩, ?_⟩, ?_⟩
  · exact World.cell?_setCell_same' _ _ _ (by rw [d1]; rfl)
  · rw [World.cell?_setCell_other _ _ _ _ (by simp)]; exact d2
  · rw [World.cell?_setCell_other _ _ _ _ (by simp)]; exact d3
  · rw [World.frozen?_setCell]; exact g1
  · rw [World.frozen?_setCell]; exact g2
  · rw [World.frozen?_setCell]; exact g3
  · exact ⟨ownsRow_setCell_below ho.1 (a := ⟨p, 0, none⟩) (Nat.lt_succ_self p) _, ho.2⟩
  · have hb := (Below.refl 0 w1).setCell (p := ⟨p, 0, none⟩) (Nat.zero_le _) v'
    refine ⟨hb.os.trans hg.os, hb.tape.trans hg.tape, hb.output.trans hg.output, Nat.le_trans hg.size hb.size, fun b h1 h2 h3 => ?_, fun g hgg => ?_⟩
    · exact (heap_setCell_other _ _ _ _ h2).trans (hg.block b h1 (fun e => h3 e.symm))
    · rcases hv with e | e
      · exact .inl (e ▸ hgg)
      · rw [e] at hgg; cases hgg; exact .inr (Nat.le_refl _)
end Go.Proofs.Ythkbddnkcljjpaa

namespace Go.Proofs.Ythkbddnkcljjpaa
open Go.RowKit Go.Deep
set_option linter.unusedVariables false
set_option linter.unusedSimpArgs false

theorem holdsB_none (w : World) : HoldsB w none 0 0 [] := ⟨rfl, by omega, by omega, by omega, (fun x hx => by cases hx), fun _ => ⟨rfl, rfl⟩, fun h => absurd h (by omega)⟩
theorem lay0_any (x : Int) (w : World) (h0 : 0 ≤ x) (h1 : x ≤ 18446744073709551615) :
    Calls Try.prog 119 #[.slice none 0 0, .int .u64 x] w fun e w' => ∃ g, e = .returned (.slice (some ⟨g, 0, none⟩) (numB x).length (numB x).length) ∧ HoldsB w' (some ⟨g, 0, none⟩) (numB x).length (numB x).length (numB x) ∧ Below w.heap.size w w' := by
  refine (lay_any none 0 0 [] x w (holdsB_none w) h0 h1 (by omega)).mono ?_
  rintro e w' ⟨g, rfl, h2, b2⟩
  have h3 := h2.own.holds
  rw [List.nil_append, Nat.zero_add, ← numB_len] at h3
  exact ⟨g, by rw [numB_len, Nat.zero_add], h3, b2⟩
theorem layint0_any (x : Int) (w : World) (hx : I64 x) :
    Calls Try.prog 102 #[.slice none 0 0, .int .i64 x] w fun e w' => ∃ g, e = .returned (.slice (some ⟨g, 0, none⟩) (numB (zig x)).length (numB (zig x)).length) ∧ HoldsB w' (some ⟨g, 0, none⟩) (numB (zig x)).length (numB (zig x)).length (numB (zig x)) ∧ Below w.heap.size w w' := by
  refine (layint_any none 0 0 [] x w (holdsB_none w) hx (by omega)).mono ?_
  rintro e w' ⟨g, rfl, h2, b2⟩
  have h3 := h2.own.holds
  rw [List.nil_append, Nat.zero_add, ← numB_len] at h3
  exact ⟨g, by rw [numB_len, Nat.zero_add], h3, b2⟩

set_option maxRecDepth 100000 in
set_option maxHeartbeats 4000000 in
theorem cnumber_any (p : Nat) (x : Int) (w : World) (v : Value) (l : List Int) (lg bz : Bool) (h : Wr w p v l lg bz) (h0 : 0 ≤ x) (h1 : x ≤ 18446744073709551615) (hm : l.length + 9 ≤ 140737488355328) :
    Calls Try.prog 104 #[.pointer (some ⟨p, 0, none⟩), .int .u64 x] w fun e w' => (∃ r, e = .returned r) ∧ ∃ v', Wr w' p v' (l ++ numB x) lg bz ∧ WK p v w w' v' := by
  have HW := hid h
  have LAY := hid (fun W => lay0_any x W h0 h1)
  have hn9 : (numB x).length ≤ 9 := by rw [numB_len]; have := shelf_le x; omega
  clear h h0 h1
  generalize numB x = BS at *
  go_enter Try.func104, Try.ntmps104
  go_upto_region 0 with fail
  have HD := hid (HW.out.below (Below.drew (Below.refl w.heap.size w)))
  have KD : Hid (WK p v w w.drew v) := WK.of_below (Below.drew (Below.refl _ _))
  refine wp_region_held_drew (S := fun _ => True) (by kernel_rfl) trivial (fun hHeld => ?_)
  refine wpAnyH_take (i := 0) (v := .pointer (some ⟨p, 0, none⟩)) rfl (by kernel_rfl) (by kernel_rfl) (by kernel_rfl) (fun _ _ _ h => h) (Or.inl ⟨by rfl, ?_⟩) (by assumption) ?_
  · (intro w hSw; (try dsimp only at hSw); go_simp)
  (try simp only [Act.put, List.getElem_toArray, List.getElem_cons_succ, List.getElem_cons_zero, List.setIfInBounds_toArray, List.set_cons_zero, List.set_cons_succ])
  refine wpAnyH_take (i := 1) (v := .pointer (some ⟨p, 0, none⟩)) rfl (by kernel_rfl) (by kernel_rfl) (by kernel_rfl) (fun _ _ _ h => h) (Or.inl ⟨by rfl, ?_⟩) (by assumption) ?_
  · (intro w hSw; (try dsimp only at hSw); go_simp)
  (try simp only [Act.put, List.getElem_toArray, List.getElem_cons_succ, List.getElem_cons_zero, List.setIfInBounds_toArray, List.set_cons_zero, List.set_cons_succ])
  refine wpAnyH_take (i := 2) (v := .pointer (some ⟨p, 0, none⟩)) rfl (by kernel_rfl) (by kernel_rfl) (by kernel_rfl) (fun _ _ _ h => h) (Or.inl ⟨by rfl, ?_⟩) (by assumption) ?_
  · (intro w hSw; (try dsimp only at hSw); go_simp)
  (try simp only [Act.put, List.getElem_toArray, List.getElem_cons_succ, List.getElem_cons_zero, List.setIfInBounds_toArray, List.set_cons_zero, List.set_cons_succ])
  refine wpAnyH_take (i := 3) (v := .pointer (some ⟨p, 0, none⟩)) rfl (by kernel_rfl) (by kernel_rfl) (by kernel_rfl) (fun _ _ _ h => h) (Or.inl ⟨by rfl, ?_⟩) (by assumption) ?_
  · (intro w hSw; (try dsimp only at hSw); go_simp)
  (try simp only [Act.put, List.getElem_toArray, List.getElem_cons_succ, List.getElem_cons_zero, List.setIfInBounds_toArray, List.set_cons_zero, List.set_cons_succ])
  refine wpAnyH_take (i := 5) (v := .int .u64 x) rfl (by kernel_rfl) (by kernel_rfl) (by kernel_rfl) (fun _ _ _ h => h) (Or.inl ⟨by rfl, ?_⟩) (by assumption) ?_
  · (intro w hSw; (try dsimp only at hSw); go_simp)
  (try simp only [Act.put, List.getElem_toArray, List.getElem_cons_succ, List.getElem_cons_zero, List.setIfInBounds_toArray, List.set_cons_zero, List.set_cons_succ])
  generalize w.drew = wd at *
  refine wpAnyH_ready (rs := [4, 6]) (by kernel_rfl) (by simp) ?_
  refine AllReadyH.cons rfl (fun K hK => ?_) ?_
  · skip
    have c0 := HD.out.1.1.1
    go_simp
    refine hK.out _ _ trivial (fun hHeld => ?_)
    clear hK K c0
    (try simp only [Act.put, List.getElem_toArray, List.getElem_cons_succ, List.getElem_cons_zero, List.setIfInBounds_toArray, List.set_cons_zero, List.set_cons_succ])
    refine wpAnyH_ready (rs := [6]) (by kernel_rfl) (by simp) ?_
    refine AllReadyH.cons rfl (fun K hK => ?_) AllReadyH.nil
    go_simp
    with_reducible refine (LAY.out _).mono ?_
    rintro e x1 ⟨g, rfl, o1, b1⟩
    have HR := hid (HD.out.below b1)
    have KR := hid (KD.out.trans (WK.of_below b1))
    have HB8 := hid o1
    clear o1 b1
    refine hK.out _ _ trivial (fun hHeld => ?_)
    clear hK K
    (try simp only [Act.put, List.getElem_toArray, List.getElem_cons_succ, List.getElem_cons_zero, List.setIfInBounds_toArray, List.set_cons_zero, List.set_cons_succ])
    refine wpAnyH_ready (rs := [7]) (by kernel_rfl) (by simp) ?_
    refine AllReadyH.cons rfl (fun K hK => ?_) AllReadyH.nil
    refine appB_step x1 rfl (.tmp 8) (.tmp 10) rfl (p + 1) l.length v l rfl HR.out.2 (by have := HR.out.lt; omega) (some ⟨g, 0, none⟩) BS.length BS.length BS rfl HB8.out (by omega) ?_
    intro v' w9 oo hg hv
    obtain ⟨va, vc, rfl⟩ := oo.form
    have hblk : w9.heap[p]? = x1.heap[p]? := hg.block p HR.out.lt (fun e => by have := HR.out.row p e.symm; omega)
    have d1 : w9.cell? ⟨p, 0, none⟩ = some v := (World.cell?_of_block hblk).trans HR.out.1.1.1
    have g1 : w9.frozen? ⟨p, 0, none⟩ = false := (World.frozen?_of_block hblk).trans HR.out.1.2.1
    have PW := hid (wr_put HR.out hg hv (l' := l ++ BS) (by rw [List.length_append]; exact oo))
    clear hg hv oo hblk
    refine hK.out _ _ trivial (fun hHeld => ?_)
    clear hK K
    (try simp only [Act.put, List.getElem_toArray, List.getElem_cons_succ, List.getElem_cons_zero, List.setIfInBounds_toArray, List.set_cons_zero, List.set_cons_succ])
    refine wpAnyH_take (i := 8) (v := .pointer (some ⟨p, 0, none⟩)) rfl (by kernel_rfl) (by kernel_rfl) (by kernel_rfl) (fun _ _ _ h => h) (Or.inl ⟨by rfl, ?_⟩) (by assumption) ?_
    · (intro w hSw; (try dsimp only at hSw); go_simp)
    (try simp only [Act.put, List.getElem_toArray, List.getElem_cons_succ, List.getElem_cons_zero, List.setIfInBounds_toArray, List.set_cons_zero, List.set_cons_succ])
    refine wpAnyH_take (i := 9) (v := .pointer (some ⟨p, 0, none⟩)) rfl (by kernel_rfl) (by kernel_rfl) (by kernel_rfl) (fun _ _ _ h => h) (Or.inl ⟨by rfl, ?_⟩) (by assumption) ?_
    · (intro w hSw; (try dsimp only at hSw); go_simp)
    (try simp only [Act.put, List.getElem_toArray, List.getElem_cons_succ, List.getElem_cons_zero, List.setIfInBounds_toArray, List.set_cons_zero, List.set_cons_succ])
    refine wpAnyH_ready (rs := [10]) (by kernel_rfl) (by simp) ?_
    refine AllReadyH.cons rfl (fun K hK => ?_) AllReadyH.nil
    go_simp
    refine hK.out _ _ trivial (fun hHeld => ?_)
    clear hK K d1 g1
    (try simp only [Act.put, List.getElem_toArray, List.getElem_cons_succ, List.getElem_cons_zero, List.setIfInBounds_toArray, List.set_cons_zero, List.set_cons_succ])
    refine wpAnyH_done (by kernel_rfl) ?_ _
    clear hHeld
    have HF := hid PW.out.1
    have KF := hid (KR.out.trans PW.out.2)
    clear PW HR KR HB8 HD KD
    generalize w9.setCell ⟨p, 0, none⟩ (.slice va (l.length + BS.length) vc) = wf at *
    go_wp2_with fail
    go_end0
    exact ⟨⟨_, rfl⟩, _, HF.out, KF.out⟩
  refine AllReadyH.cons rfl (fun K hK => ?_) AllReadyH.nil
  go_simp
  with_reducible refine (LAY.out _).mono ?_
  rintro e x1 ⟨g, rfl, o1, b1⟩
  have HR := hid (HD.out.below b1)
  have KR := hid (KD.out.trans (WK.of_below b1))
  have HB8 := hid o1
  clear o1 b1
  refine hK.out _ _ trivial (fun hHeld => ?_)
  clear hK K
  (try simp only [Act.put, List.getElem_toArray, List.getElem_cons_succ, List.getElem_cons_zero, List.setIfInBounds_toArray, List.set_cons_zero, List.set_cons_succ])
  have c0 := HR.out.1.1.1
  refine wpAnyH_ready (rs := [4]) (by kernel_rfl) (by simp) ?_
  refine AllReadyH.cons rfl (fun K hK => ?_) AllReadyH.nil
  go_simp
  refine hK.out _ _ trivial (fun hHeld => ?_)
  clear hK K c0
  (try simp only [Act.put, List.getElem_toArray, List.getElem_cons_succ, List.getElem_cons_zero, List.setIfInBounds_toArray, List.set_cons_zero, List.set_cons_succ])
  refine wpAnyH_ready (rs := [7]) (by kernel_rfl) (by simp) ?_
  refine AllReadyH.cons rfl (fun K hK => ?_) AllReadyH.nil
  refine appB_step x1 rfl (.tmp 8) (.tmp 10) rfl (p + 1) l.length v l rfl HR.out.2 (by have := HR.out.lt; omega) (some ⟨g, 0, none⟩) BS.length BS.length BS rfl HB8.out (by omega) ?_
  intro v' w9 oo hg hv
  obtain ⟨va, vc, rfl⟩ := oo.form
  have hblk : w9.heap[p]? = x1.heap[p]? := hg.block p HR.out.lt (fun e => by have := HR.out.row p e.symm; omega)
  have d1 : w9.cell? ⟨p, 0, none⟩ = some v := (World.cell?_of_block hblk).trans HR.out.1.1.1
  have g1 : w9.frozen? ⟨p, 0, none⟩ = false := (World.frozen?_of_block hblk).trans HR.out.1.2.1
  have PW := hid (wr_put HR.out hg hv (l' := l ++ BS) (by rw [List.length_append]; exact oo))
  clear hg hv oo hblk
  refine hK.out _ _ trivial (fun hHeld => ?_)
  clear hK K
  (try simp only [Act.put, List.getElem_toArray, List.getElem_cons_succ, List.getElem_cons_zero, List.setIfInBounds_toArray, List.set_cons_zero, List.set_cons_succ])
  refine wpAnyH_take (i := 8) (v := .pointer (some ⟨p, 0, none⟩)) rfl (by kernel_rfl) (by kernel_rfl) (by kernel_rfl) (fun _ _ _ h => h) (Or.inl ⟨by rfl, ?_⟩) (by assumption) ?_
  · (intro w hSw; (try dsimp only at hSw); go_simp)
  (try simp only [Act.put, List.getElem_toArray, List.getElem_cons_succ, List.getElem_cons_zero, List.setIfInBounds_toArray, List.set_cons_zero, List.set_cons_succ])
  refine wpAnyH_take (i := 9) (v := .pointer (some ⟨p, 0, none⟩)) rfl (by kernel_rfl) (by kernel_rfl) (by kernel_rfl) (fun _ _ _ h => h) (Or.inl ⟨by rfl, ?_⟩) (by assumption) ?_
  · (intro w hSw; (try dsimp only at hSw); go_simp)
  (try simp only [Act.put, List.getElem_toArray, List.getElem_cons_succ, List.getElem_cons_zero, List.setIfInBounds_toArray, List.set_cons_zero, List.set_cons_succ])
  refine wpAnyH_ready (rs := [10]) (by kernel_rfl) (by simp) ?_
  refine AllReadyH.cons rfl (fun K hK => ?_) AllReadyH.nil
  go_simp
  refine hK.out _ _ trivial (fun hHeld => ?_)
  clear hK K d1 g1
  (try simp only [Act.put, List.getElem_toArray, List.getElem_cons_succ, List.getElem_cons_zero, List.setIfInBounds_toArray, List.set_cons_zero, List.set_cons_succ])
  refine wpAnyH_done (by kernel_rfl) ?_ _
  clear hHeld
  have HF := hid PW.out.1
  have KF := hid (KR.out.trans PW.out.2)
  clear PW HR KR HB8 HD KD
  generalize w9.setCell ⟨p, 0, none⟩ (.slice va (l.length + BS.length) vc) = wf at *
  go_wp2_with fail
  go_end0
  exact ⟨⟨_, rfl⟩, _, HF.out, KF.out⟩

/-- Whole numbers' bytes. -/
def bytesZ (xs : List Int) : List Int := xs.flatMap (fun x => numB (zig x))
theorem bytesZ_snoc {xs : List Int} {k : Nat} (h : k < xs.length) : bytesZ (xs.take (k + 1)) = bytesZ (xs.take k) ++ numB (zig (xs[k]?.getD 0)) := by
  unfold bytesZ
  rw [List.take_add_one, List.getElem?_eq_getElem h]
  simp only [Option.toList_some, List.flatMap_append, List.flatMap_cons, List.flatMap_nil, List.append_nil, Option.getD_some]
theorem bytesZ_len (xs : List Int) : (bytesZ xs).length ≤ 9 * xs.length := by
  induction xs with
  | nil => simp [bytesZ]
  | cons x r ih =>
    have e : bytesZ (x :: r) = numB (zig x) ++ bytesZ r := rfl
    rw [e, List.length_append, List.length_cons, numB_len]
    have := shelf_le (zig x)
    omega
theorem bytesZ_app (a b : List Int) : bytesZ (a ++ b) = bytesZ a ++ bytesZ b := by unfold bytesZ; rw [List.flatMap_append]

set_option maxRecDepth 100000 in
set_option maxHeartbeats 4000000 in
theorem cints_any (p b o c : Nat) (xs : List Int) (w : World) (v0 : Value) (l0 : List Int) (lg bz : Bool) (h : Wr w p v0 l0 lg bz) (ha : HoldsN w (some ⟨b, o, none⟩) xs.length c xs) (hb1 : b ≠ p) (hb2 : v0.ownBlock ≠ some b) (hx : ∀ x ∈ xs, I64 x) (hm : l0.length + 9 * xs.length ≤ 140737488355328) :
    Calls Try.prog 67 #[.pointer (some ⟨p, 0, none⟩), .slice (some ⟨b, o, none⟩) xs.length c] w fun e w' => (∃ r, e = .returned r) ∧ ∃ v', Wr w' p v' (l0 ++ bytesZ xs) lg bz ∧ WK p v0 w w' v' := by
  have HW0 := hid h
  have HA := hid ha
  have HX := hid hx
  have hcap := ha.2.1
  have hcm := ha.2.2.1
  clear h ha hx
  generalize hn : xs.length = n at *
  have HN := hid hn
  clear hn
  go_enter Try.func67, Try.ntmps67
  go_wp2_with fail
  go_loopw [8] (fun i wr => ∃ k : Nat, k ≤ n ∧ i = .int .i64 (k : Int) ∧ ∃ v', Hid (Wr wr p v' (l0 ++ bytesZ (xs.take k)) lg bz) ∧ Hid (WK p v0 w wr v')) (fun i _ => n - (intOf i).toNat)
  case atStart => exact ⟨0, by omega, rfl, v0, by unfold Hid; simpa [bytesZ] using HW0.out, WK.refl _ _ _⟩
  case round =>
    obtain ⟨k, hk, rfl, v, HW, K0⟩ := hrel
    by_cases hlt : k < n
    · have hlt' : k < xs.length := by rw [HN.out]; exact hlt
      obtain ⟨ab, ao, e, RI⟩ := HA.out.rowN (by omega)
      cases e
      have c0 := K0.out.cell (RI k hlt) hb1 hb2
      have SN := hid (bytesZ_snoc hlt')
      have hbl := bytesZ_len (xs.take k)
      have hxk : I64 (xs[k]?.getD 0) := HX.out _ (by rw [List.getElem?_eq_getElem hlt']; exact List.getElem_mem hlt')
      have ka : (0 : Int) ≤ (k : Int) := by omega
      have kb : (k : Int) < (n : Int) := by omega
      have hl9 : (l0 ++ bytesZ (xs.take k)).length + 9 ≤ 140737488355328 := by
        rw [List.length_append]
        rw [List.length_take] at hbl
        omega
      clear RI hbl
      generalize xs[k]?.getD 0 = x at *
      have LAY := hid (fun W => layint0_any x W hxk)
      have hn9 : (numB (zig x)).length ≤ 9 := by rw [numB_len]; have := shelf_le (zig x); omega
      clear hxk
      generalize hll : l0 ++ bytesZ (xs.take k) = l at *
      have HLL := hid hll
      clear hll
      generalize numB (zig x) = BS at *
      go_upto_region 3 with fail
      clear c0
      have HD := hid (HW.out.below (Below.drew (Below.refl wr.heap.size wr)))
      have KD : Hid (WK p v wr wr.drew v) := WK.of_below (Below.drew (Below.refl _ _))
      refine wp_region_held_drew (S := fun _ => True) (by kernel_rfl) trivial (fun hHeld => ?_)
      refine wpAnyH_take (i := 0) (v := .pointer (some ⟨p, 0, none⟩)) rfl (by kernel_rfl) (by kernel_rfl) (by kernel_rfl) (fun _ _ _ h => h) (Or.inl ⟨by rfl, ?_⟩) (by assumption) ?_
      · (intro w hSw; (try dsimp only at hSw); go_simp)
      (try simp only [Act.put, List.getElem_toArray, List.getElem_cons_succ, List.getElem_cons_zero, List.setIfInBounds_toArray, List.set_cons_zero, List.set_cons_succ])
      refine wpAnyH_take (i := 1) (v := .pointer (some ⟨p, 0, none⟩)) rfl (by kernel_rfl) (by kernel_rfl) (by kernel_rfl) (fun _ _ _ h => h) (Or.inl ⟨by rfl, ?_⟩) (by assumption) ?_
      · (intro w hSw; (try dsimp only at hSw); go_simp)
      (try simp only [Act.put, List.getElem_toArray, List.getElem_cons_succ, List.getElem_cons_zero, List.setIfInBounds_toArray, List.set_cons_zero, List.set_cons_succ])
      refine wpAnyH_take (i := 2) (v := .pointer (some ⟨p, 0, none⟩)) rfl (by kernel_rfl) (by kernel_rfl) (by kernel_rfl) (fun _ _ _ h => h) (Or.inl ⟨by rfl, ?_⟩) (by assumption) ?_
      · (intro w hSw; (try dsimp only at hSw); go_simp)
      (try simp only [Act.put, List.getElem_toArray, List.getElem_cons_succ, List.getElem_cons_zero, List.setIfInBounds_toArray, List.set_cons_zero, List.set_cons_succ])
      refine wpAnyH_take (i := 3) (v := .pointer (some ⟨p, 0, none⟩)) rfl (by kernel_rfl) (by kernel_rfl) (by kernel_rfl) (fun _ _ _ h => h) (Or.inl ⟨by rfl, ?_⟩) (by assumption) ?_
      · (intro w hSw; (try dsimp only at hSw); go_simp)
      (try simp only [Act.put, List.getElem_toArray, List.getElem_cons_succ, List.getElem_cons_zero, List.setIfInBounds_toArray, List.set_cons_zero, List.set_cons_succ])
      refine wpAnyH_take (i := 5) (v := .int .i64 x) rfl (by kernel_rfl) (by kernel_rfl) (by kernel_rfl) (fun _ _ _ h => h) (Or.inl ⟨by rfl, ?_⟩) (by assumption) ?_
      · (intro w hSw; (try dsimp only at hSw); go_simp)
      (try simp only [Act.put, List.getElem_toArray, List.getElem_cons_succ, List.getElem_cons_zero, List.setIfInBounds_toArray, List.set_cons_zero, List.set_cons_succ])
      generalize wr.drew = wd at *
      refine wpAnyH_ready (rs := [4, 6]) (by kernel_rfl) (by simp) ?_
      refine AllReadyH.cons rfl (fun K hK => ?_) ?_
      · skip
        have c0 := HD.out.1.1.1
        go_simp
        refine hK.out _ _ trivial (fun hHeld => ?_)
        clear hK K c0
        (try simp only [Act.put, List.getElem_toArray, List.getElem_cons_succ, List.getElem_cons_zero, List.setIfInBounds_toArray, List.set_cons_zero, List.set_cons_succ])
        refine wpAnyH_ready (rs := [6]) (by kernel_rfl) (by simp) ?_
        refine AllReadyH.cons rfl (fun K hK => ?_) AllReadyH.nil
        go_simp
        with_reducible refine (LAY.out _).mono ?_
        rintro e x1 ⟨g, rfl, o1, b1⟩
        have HR := hid (HD.out.below b1)
        have KR := hid (KD.out.trans (WK.of_below b1))
        have HB8 := hid o1
        clear o1 b1
        refine hK.out _ _ trivial (fun hHeld => ?_)
        clear hK K
        (try simp only [Act.put, List.getElem_toArray, List.getElem_cons_succ, List.getElem_cons_zero, List.setIfInBounds_toArray, List.set_cons_zero, List.set_cons_succ])
        refine wpAnyH_ready (rs := [7]) (by kernel_rfl) (by simp) ?_
        refine AllReadyH.cons rfl (fun K hK => ?_) AllReadyH.nil
        refine appB_step x1 rfl (.tmp 16) (.tmp 18) rfl (p + 1) l.length v l rfl HR.out.2 (by have := HR.out.lt; omega) (some ⟨g, 0, none⟩) BS.length BS.length BS rfl HB8.out (by omega) ?_
        intro v' w9 oo hg hv
        obtain ⟨va, vc, rfl⟩ := oo.form
        have hblk : w9.heap[p]? = x1.heap[p]? := hg.block p HR.out.lt (fun e => by have := HR.out.row p e.symm; omega)
        have d1 : w9.cell? ⟨p, 0, none⟩ = some v := (World.cell?_of_block hblk).trans HR.out.1.1.1
        have g1 : w9.frozen? ⟨p, 0, none⟩ = false := (World.frozen?_of_block hblk).trans HR.out.1.2.1
        have PW := hid (wr_put HR.out hg hv (l' := l ++ BS) (by rw [List.length_append]; exact oo))
        clear hg hv oo hblk
        refine hK.out _ _ trivial (fun hHeld => ?_)
        clear hK K
        (try simp only [Act.put, List.getElem_toArray, List.getElem_cons_succ, List.getElem_cons_zero, List.setIfInBounds_toArray, List.set_cons_zero, List.set_cons_succ])
        refine wpAnyH_take (i := 8) (v := .pointer (some ⟨p, 0, none⟩)) rfl (by kernel_rfl) (by kernel_rfl) (by kernel_rfl) (fun _ _ _ h => h) (Or.inl ⟨by rfl, ?_⟩) (by assumption) ?_
        · (intro w hSw; (try dsimp only at hSw); go_simp)
        (try simp only [Act.put, List.getElem_toArray, List.getElem_cons_succ, List.getElem_cons_zero, List.setIfInBounds_toArray, List.set_cons_zero, List.set_cons_succ])
        refine wpAnyH_take (i := 9) (v := .pointer (some ⟨p, 0, none⟩)) rfl (by kernel_rfl) (by kernel_rfl) (by kernel_rfl) (fun _ _ _ h => h) (Or.inl ⟨by rfl, ?_⟩) (by assumption) ?_
        · (intro w hSw; (try dsimp only at hSw); go_simp)
        (try simp only [Act.put, List.getElem_toArray, List.getElem_cons_succ, List.getElem_cons_zero, List.setIfInBounds_toArray, List.set_cons_zero, List.set_cons_succ])
        refine wpAnyH_ready (rs := [10]) (by kernel_rfl) (by simp) ?_
        refine AllReadyH.cons rfl (fun K hK => ?_) AllReadyH.nil
        go_simp
        refine hK.out _ _ trivial (fun hHeld => ?_)
        clear hK K d1 g1
        (try simp only [Act.put, List.getElem_toArray, List.getElem_cons_succ, List.getElem_cons_zero, List.setIfInBounds_toArray, List.set_cons_zero, List.set_cons_succ])
        refine wpAnyH_done (by kernel_rfl) ?_ _
        clear hHeld
        have HF := hid PW.out.1
        have KF := hid (KR.out.trans PW.out.2)
        clear PW HR KR HB8 HD KD
        generalize w9.setCell ⟨p, 0, none⟩ (.slice va (l.length + BS.length) vc) = wf at *
        have KZ := hid (K0.out.trans KF.out)
        go_wp2_with fail
        refine ⟨⟨k + 1, by omega, by go_num, ⟨_, by rw [SN.out, ← List.append_assoc, HLL.out]; exact HF.out, KZ.out⟩⟩, ?_⟩
        simp [intOf]; omega
      refine AllReadyH.cons rfl (fun K hK => ?_) AllReadyH.nil
      go_simp
      with_reducible refine (LAY.out _).mono ?_
      rintro e x1 ⟨g, rfl, o1, b1⟩
      have HR := hid (HD.out.below b1)
      have KR := hid (KD.out.trans (WK.of_below b1))
      have HB8 := hid o1
      clear o1 b1
      refine hK.out _ _ trivial (fun hHeld => ?_)
      clear hK K
      (try simp only [Act.put, List.getElem_toArray, List.getElem_cons_succ, List.getElem_cons_zero, List.setIfInBounds_toArray, List.set_cons_zero, List.set_cons_succ])
      have c0 := HR.out.1.1.1
      refine wpAnyH_ready (rs := [4]) (by kernel_rfl) (by simp) ?_
      refine AllReadyH.cons rfl (fun K hK => ?_) AllReadyH.nil
      go_simp
      refine hK.out _ _ trivial (fun hHeld => ?_)
      clear hK K c0
      (try simp only [Act.put, List.getElem_toArray, List.getElem_cons_succ, List.getElem_cons_zero, List.setIfInBounds_toArray, List.set_cons_zero, List.set_cons_succ])
      refine wpAnyH_ready (rs := [7]) (by kernel_rfl) (by simp) ?_
      refine AllReadyH.cons rfl (fun K hK => ?_) AllReadyH.nil
      refine appB_step x1 rfl (.tmp 16) (.tmp 18) rfl (p + 1) l.length v l rfl HR.out.2 (by have := HR.out.lt; omega) (some ⟨g, 0, none⟩) BS.length BS.length BS rfl HB8.out (by omega) ?_
      intro v' w9 oo hg hv
      obtain ⟨va, vc, rfl⟩ := oo.form
      have hblk : w9.heap[p]? = x1.heap[p]? := hg.block p HR.out.lt (fun e => by have := HR.out.row p e.symm; omega)
      have d1 : w9.cell? ⟨p, 0, none⟩ = some v := (World.cell?_of_block hblk).trans HR.out.1.1.1
      have g1 : w9.frozen? ⟨p, 0, none⟩ = false := (World.frozen?_of_block hblk).trans HR.out.1.2.1
      have PW := hid (wr_put HR.out hg hv (l' := l ++ BS) (by rw [List.length_append]; exact oo))
      clear hg hv oo hblk
      refine hK.out _ _ trivial (fun hHeld => ?_)
      clear hK K
      (try simp only [Act.put, List.getElem_toArray, List.getElem_cons_succ, List.getElem_cons_zero, List.setIfInBounds_toArray, List.set_cons_zero, List.set_cons_succ])
      refine wpAnyH_take (i := 8) (v := .pointer (some ⟨p, 0, none⟩)) rfl (by kernel_rfl) (by kernel_rfl) (by kernel_rfl) (fun _ _ _ h => h) (Or.inl ⟨by rfl, ?_⟩) (by assumption) ?_
      · (intro w hSw; (try dsimp only at hSw); go_simp)
      (try simp only [Act.put, List.getElem_toArray, List.getElem_cons_succ, List.getElem_cons_zero, List.setIfInBounds_toArray, List.set_cons_zero, List.set_cons_succ])
      refine wpAnyH_take (i := 9) (v := .pointer (some ⟨p, 0, none⟩)) rfl (by kernel_rfl) (by kernel_rfl) (by kernel_rfl) (fun _ _ _ h => h) (Or.inl ⟨by rfl, ?_⟩) (by assumption) ?_
      · (intro w hSw; (try dsimp only at hSw); go_simp)
      (try simp only [Act.put, List.getElem_toArray, List.getElem_cons_succ, List.getElem_cons_zero, List.setIfInBounds_toArray, List.set_cons_zero, List.set_cons_succ])
      refine wpAnyH_ready (rs := [10]) (by kernel_rfl) (by simp) ?_
      refine AllReadyH.cons rfl (fun K hK => ?_) AllReadyH.nil
      go_simp
      refine hK.out _ _ trivial (fun hHeld => ?_)
      clear hK K d1 g1
      (try simp only [Act.put, List.getElem_toArray, List.getElem_cons_succ, List.getElem_cons_zero, List.setIfInBounds_toArray, List.set_cons_zero, List.set_cons_succ])
      refine wpAnyH_done (by kernel_rfl) ?_ _
      clear hHeld
      have HF := hid PW.out.1
      have KF := hid (KR.out.trans PW.out.2)
      clear PW HR KR HB8 HD KD
      generalize w9.setCell ⟨p, 0, none⟩ (.slice va (l.length + BS.length) vc) = wf at *
      have KZ := hid (K0.out.trans KF.out)
      go_wp2_with fail
      refine ⟨⟨k + 1, by omega, by go_num, ⟨_, by rw [SN.out, ← List.append_assoc, HLL.out]; exact HF.out, KZ.out⟩⟩, ?_⟩
      simp [intOf]; omega
    · obtain rfl : n = k := by omega
      have e : xs.take n = xs := List.take_of_length_le (by rw [HN.out]; exact Nat.le_refl _)
      rw [e] at HW
      go_wp2_with fail
      go_end0
      exact ⟨⟨_, rfl⟩, v, HW.out, K0.out⟩

set_option maxRecDepth 100000 in
set_option maxHeartbeats 4000000 in
theorem cints64_any (p b o c : Nat) (xs : List Int) (w : World) (v0 : Value) (l0 : List Int) (lg bz : Bool) (h : Wr w p v0 l0 lg bz) (ha : HoldsN w (some ⟨b, o, none⟩) xs.length c xs) (hb1 : b ≠ p) (hb2 : v0.ownBlock ≠ some b) (hx : ∀ x ∈ xs, I64 x) (hm : l0.length + 9 * xs.length ≤ 140737488355328) :
    Calls Try.prog 66 #[.pointer (some ⟨p, 0, none⟩), .slice (some ⟨b, o, none⟩) xs.length c] w fun e w' => (∃ r, e = .returned r) ∧ ∃ v', Wr w' p v' (l0 ++ bytesZ xs) lg bz ∧ WK p v0 w w' v' := by
  have HW0 := hid h
  have HA := hid ha
  have HX := hid hx
  have hcap := ha.2.1
  have hcm := ha.2.2.1
  clear h ha hx
  generalize hn : xs.length = n at *
  have HN := hid hn
  clear hn
  go_enter Try.func66, Try.ntmps66
  go_wp2_with fail
  go_loopw [8] (fun i wr => ∃ k : Nat, k ≤ n ∧ i = .int .i64 (k : Int) ∧ ∃ v', Hid (Wr wr p v' (l0 ++ bytesZ (xs.take k)) lg bz) ∧ Hid (WK p v0 w wr v')) (fun i _ => n - (intOf i).toNat)
  case atStart => exact ⟨0, by omega, rfl, v0, by unfold Hid; simpa [bytesZ] using HW0.out, WK.refl _ _ _⟩
  case round =>
    obtain ⟨k, hk, rfl, v, HW, K0⟩ := hrel
    by_cases hlt : k < n
    · have hlt' : k < xs.length := by rw [HN.out]; exact hlt
      obtain ⟨ab, ao, e, RI⟩ := HA.out.rowN (by omega)
      cases e
      have c0 := K0.out.cell (RI k hlt) hb1 hb2
      have SN := hid (bytesZ_snoc hlt')
      have hbl := bytesZ_len (xs.take k)
      have hxk : I64 (xs[k]?.getD 0) := HX.out _ (by rw [List.getElem?_eq_getElem hlt']; exact List.getElem_mem hlt')
      have ka : (0 : Int) ≤ (k : Int) := by omega
      have kb : (k : Int) < (n : Int) := by omega
      have hl9 : (l0 ++ bytesZ (xs.take k)).length + 9 ≤ 140737488355328 := by
        rw [List.length_append]
        rw [List.length_take] at hbl
        omega
      clear RI hbl
      generalize xs[k]?.getD 0 = x at *
      have LAY := hid (fun W => layint0_any x W hxk)
      have hn9 : (numB (zig x)).length ≤ 9 := by rw [numB_len]; have := shelf_le (zig x); omega
      clear hxk
      generalize hll : l0 ++ bytesZ (xs.take k) = l at *
      have HLL := hid hll
      clear hll
      generalize numB (zig x) = BS at *
      go_upto_region 3 with fail
      clear c0
      have HD := hid (HW.out.below (Below.drew (Below.refl wr.heap.size wr)))
      have KD : Hid (WK p v wr wr.drew v) := WK.of_below (Below.drew (Below.refl _ _))
      refine wp_region_held_drew (S := fun _ => True) (by kernel_rfl) trivial (fun hHeld => ?_)
      refine wpAnyH_take (i := 0) (v := .pointer (some ⟨p, 0, none⟩)) rfl (by kernel_rfl) (by kernel_rfl) (by kernel_rfl) (fun _ _ _ h => h) (Or.inl ⟨by rfl, ?_⟩) (by assumption) ?_
      · (intro w hSw; (try dsimp only at hSw); go_simp)
      (try simp only [Act.put, List.getElem_toArray, List.getElem_cons_succ, List.getElem_cons_zero, List.setIfInBounds_toArray, List.set_cons_zero, List.set_cons_succ])
      refine wpAnyH_take (i := 1) (v := .pointer (some ⟨p, 0, none⟩)) rfl (by kernel_rfl) (by kernel_rfl) (by kernel_rfl) (fun _ _ _ h => h) (Or.inl ⟨by rfl, ?_⟩) (by assumption) ?_
      · (intro w hSw; (try dsimp only at hSw); go_simp)
      (try simp only [Act.put, List.getElem_toArray, List.getElem_cons_succ, List.getElem_cons_zero, List.setIfInBounds_toArray, List.set_cons_zero, List.set_cons_succ])
      refine wpAnyH_take (i := 2) (v := .pointer (some ⟨p, 0, none⟩)) rfl (by kernel_rfl) (by kernel_rfl) (by kernel_rfl) (fun _ _ _ h => h) (Or.inl ⟨by rfl, ?_⟩) (by assumption) ?_
      · (intro w hSw; (try dsimp only at hSw); go_simp)
      (try simp only [Act.put, List.getElem_toArray, List.getElem_cons_succ, List.getElem_cons_zero, List.setIfInBounds_toArray, List.set_cons_zero, List.set_cons_succ])
      refine wpAnyH_take (i := 3) (v := .pointer (some ⟨p, 0, none⟩)) rfl (by kernel_rfl) (by kernel_rfl) (by kernel_rfl) (fun _ _ _ h => h) (Or.inl ⟨by rfl, ?_⟩) (by assumption) ?_
      · (intro w hSw; (try dsimp only at hSw); go_simp)
      (try simp only [Act.put, List.getElem_toArray, List.getElem_cons_succ, List.getElem_cons_zero, List.setIfInBounds_toArray, List.set_cons_zero, List.set_cons_succ])
      refine wpAnyH_take (i := 5) (v := .int .i64 x) rfl (by kernel_rfl) (by kernel_rfl) (by kernel_rfl) (fun _ _ _ h => h) (Or.inl ⟨by rfl, ?_⟩) (by assumption) ?_
      · (intro w hSw; (try dsimp only at hSw); go_simp)
      (try simp only [Act.put, List.getElem_toArray, List.getElem_cons_succ, List.getElem_cons_zero, List.setIfInBounds_toArray, List.set_cons_zero, List.set_cons_succ])
      generalize wr.drew = wd at *
      refine wpAnyH_ready (rs := [4, 6]) (by kernel_rfl) (by simp) ?_
      refine AllReadyH.cons rfl (fun K hK => ?_) ?_
      · skip
        have c0 := HD.out.1.1.1
        go_simp
        refine hK.out _ _ trivial (fun hHeld => ?_)
        clear hK K c0
        (try simp only [Act.put, List.getElem_toArray, List.getElem_cons_succ, List.getElem_cons_zero, List.setIfInBounds_toArray, List.set_cons_zero, List.set_cons_succ])
        refine wpAnyH_ready (rs := [6]) (by kernel_rfl) (by simp) ?_
        refine AllReadyH.cons rfl (fun K hK => ?_) AllReadyH.nil
        go_simp
        with_reducible refine (LAY.out _).mono ?_
        rintro e x1 ⟨g, rfl, o1, b1⟩
        have HR := hid (HD.out.below b1)
        have KR := hid (KD.out.trans (WK.of_below b1))
        have HB8 := hid o1
        clear o1 b1
        refine hK.out _ _ trivial (fun hHeld => ?_)
        clear hK K
        (try simp only [Act.put, List.getElem_toArray, List.getElem_cons_succ, List.getElem_cons_zero, List.setIfInBounds_toArray, List.set_cons_zero, List.set_cons_succ])
        refine wpAnyH_ready (rs := [7]) (by kernel_rfl) (by simp) ?_
        refine AllReadyH.cons rfl (fun K hK => ?_) AllReadyH.nil
        refine appB_step x1 rfl (.tmp 16) (.tmp 18) rfl (p + 1) l.length v l rfl HR.out.2 (by have := HR.out.lt; omega) (some ⟨g, 0, none⟩) BS.length BS.length BS rfl HB8.out (by omega) ?_
        intro v' w9 oo hg hv
        obtain ⟨va, vc, rfl⟩ := oo.form
        have hblk : w9.heap[p]? = x1.heap[p]? := hg.block p HR.out.lt (fun e => by have := HR.out.row p e.symm; omega)
        have d1 : w9.cell? ⟨p, 0, none⟩ = some v := (World.cell?_of_block hblk).trans HR.out.1.1.1
        have g1 : w9.frozen? ⟨p, 0, none⟩ = false := (World.frozen?_of_block hblk).trans HR.out.1.2.1
        have PW := hid (wr_put HR.out hg hv (l' := l ++ BS) (by rw [List.length_append]; exact oo))
        clear hg hv oo hblk
        refine hK.out _ _ trivial (fun hHeld => ?_)
        clear hK K
        (try simp only [Act.put, List.getElem_toArray, List.getElem_cons_succ, List.getElem_cons_zero, List.setIfInBounds_toArray, List.set_cons_zero, List.set_cons_succ])
        refine wpAnyH_take (i := 8) (v := .pointer (some ⟨p, 0, none⟩)) rfl (by kernel_rfl) (by kernel_rfl) (by kernel_rfl) (fun _ _ _ h => h) (Or.inl ⟨by rfl, ?_⟩) (by assumption) ?_
        · (intro w hSw; (try dsimp only at hSw); go_simp)
        (try simp only [Act.put, List.getElem_toArray, List.getElem_cons_succ, List.getElem_cons_zero, List.setIfInBounds_toArray, List.set_cons_zero, List.set_cons_succ])
        refine wpAnyH_take (i := 9) (v := .pointer (some ⟨p, 0, none⟩)) rfl (by kernel_rfl) (by kernel_rfl) (by kernel_rfl) (fun _ _ _ h => h) (Or.inl ⟨by rfl, ?_⟩) (by assumption) ?_
        · (intro w hSw; (try dsimp only at hSw); go_simp)
        (try simp only [Act.put, List.getElem_toArray, List.getElem_cons_succ, List.getElem_cons_zero, List.setIfInBounds_toArray, List.set_cons_zero, List.set_cons_succ])
        refine wpAnyH_ready (rs := [10]) (by kernel_rfl) (by simp) ?_
        refine AllReadyH.cons rfl (fun K hK => ?_) AllReadyH.nil
        go_simp
        refine hK.out _ _ trivial (fun hHeld => ?_)
        clear hK K d1 g1
        (try simp only [Act.put, List.getElem_toArray, List.getElem_cons_succ, List.getElem_cons_zero, List.setIfInBounds_toArray, List.set_cons_zero, List.set_cons_succ])
        refine wpAnyH_done (by kernel_rfl) ?_ _
        clear hHeld
        have HF := hid PW.out.1
        have KF := hid (KR.out.trans PW.out.2)
        clear PW HR KR HB8 HD KD
        generalize w9.setCell ⟨p, 0, none⟩ (.slice va (l.length + BS.length) vc) = wf at *
        have KZ := hid (K0.out.trans KF.out)
        go_wp2_with fail
        refine ⟨⟨k + 1, by omega, by go_num, ⟨_, by rw [SN.out, ← List.append_assoc, HLL.out]; exact HF.out, KZ.out⟩⟩, ?_⟩
        simp [intOf]; omega
      refine AllReadyH.cons rfl (fun K hK => ?_) AllReadyH.nil
      go_simp
      with_reducible refine (LAY.out _).mono ?_
      rintro e x1 ⟨g, rfl, o1, b1⟩
      have HR := hid (HD.out.below b1)
      have KR := hid (KD.out.trans (WK.of_below b1))
      have HB8 := hid o1
      clear o1 b1
      refine hK.out _ _ trivial (fun hHeld => ?_)
      clear hK K
      (try simp only [Act.put, List.getElem_toArray, List.getElem_cons_succ, List.getElem_cons_zero, List.setIfInBounds_toArray, List.set_cons_zero, List.set_cons_succ])
      have c0 := HR.out.1.1.1
      refine wpAnyH_ready (rs := [4]) (by kernel_rfl) (by simp) ?_
      refine AllReadyH.cons rfl (fun K hK => ?_) AllReadyH.nil
      go_simp
      refine hK.out _ _ trivial (fun hHeld => ?_)
      clear hK K c0
      (try simp only [Act.put, List.getElem_toArray, List.getElem_cons_succ, List.getElem_cons_zero, List.setIfInBounds_toArray, List.set_cons_zero, List.set_cons_succ])
      refine wpAnyH_ready (rs := [7]) (by kernel_rfl) (by simp) ?_
      refine AllReadyH.cons rfl (fun K hK => ?_) AllReadyH.nil
      refine appB_step x1 rfl (.tmp 16) (.tmp 18) rfl (p + 1) l.length v l rfl HR.out.2 (by have := HR.out.lt; omega) (some ⟨g, 0, none⟩) BS.length BS.length BS rfl HB8.out (by omega) ?_
      intro v' w9 oo hg hv
      obtain ⟨va, vc, rfl⟩ := oo.form
      have hblk : w9.heap[p]? = x1.heap[p]? := hg.block p HR.out.lt (fun e => by have := HR.out.row p e.symm; omega)
      have d1 : w9.cell? ⟨p, 0, none⟩ = some v := (World.cell?_of_block hblk).trans HR.out.1.1.1
      have g1 : w9.frozen? ⟨p, 0, none⟩ = false := (World.frozen?_of_block hblk).trans HR.out.1.2.1
      have PW := hid (wr_put HR.out hg hv (l' := l ++ BS) (by rw [List.length_append]; exact oo))
      clear hg hv oo hblk
      refine hK.out _ _ trivial (fun hHeld => ?_)
      clear hK K
      (try simp only [Act.put, List.getElem_toArray, List.getElem_cons_succ, List.getElem_cons_zero, List.setIfInBounds_toArray, List.set_cons_zero, List.set_cons_succ])
      refine wpAnyH_take (i := 8) (v := .pointer (some ⟨p, 0, none⟩)) rfl (by kernel_rfl) (by kernel_rfl) (by kernel_rfl) (fun _ _ _ h => h) (Or.inl ⟨by rfl, ?_⟩) (by assumption) ?_
      · (intro w hSw; (try dsimp only at hSw); go_simp)
      (try simp only [Act.put, List.getElem_toArray, List.getElem_cons_succ, List.getElem_cons_zero, List.setIfInBounds_toArray, List.set_cons_zero, List.set_cons_succ])
      refine wpAnyH_take (i := 9) (v := .pointer (some ⟨p, 0, none⟩)) rfl (by kernel_rfl) (by kernel_rfl) (by kernel_rfl) (fun _ _ _ h => h) (Or.inl ⟨by rfl, ?_⟩) (by assumption) ?_
      · (intro w hSw; (try dsimp only at hSw); go_simp)
      (try simp only [Act.put, List.getElem_toArray, List.getElem_cons_succ, List.getElem_cons_zero, List.setIfInBounds_toArray, List.set_cons_zero, List.set_cons_succ])
      refine wpAnyH_ready (rs := [10]) (by kernel_rfl) (by simp) ?_
      refine AllReadyH.cons rfl (fun K hK => ?_) AllReadyH.nil
      go_simp
      refine hK.out _ _ trivial (fun hHeld => ?_)
      clear hK K d1 g1
      (try simp only [Act.put, List.getElem_toArray, List.getElem_cons_succ, List.getElem_cons_zero, List.setIfInBounds_toArray, List.set_cons_zero, List.set_cons_succ])
      refine wpAnyH_done (by kernel_rfl) ?_ _
      clear hHeld
      have HF := hid PW.out.1
      have KF := hid (KR.out.trans PW.out.2)
      clear PW HR KR HB8 HD KD
      generalize w9.setCell ⟨p, 0, none⟩ (.slice va (l.length + BS.length) vc) = wf at *
      have KZ := hid (K0.out.trans KF.out)
      go_wp2_with fail
      refine ⟨⟨k + 1, by omega, by go_num, ⟨_, by rw [SN.out, ← List.append_assoc, HLL.out]; exact HF.out, KZ.out⟩⟩, ?_⟩
      simp [intOf]; omega
    · obtain rfl : n = k := by omega
      have e : xs.take n = xs := List.take_of_length_le (by rw [HN.out]; exact Nat.le_refl _)
      rw [e] at HW
      go_wp2_with fail
      go_end0
      exact ⟨⟨_, rfl⟩, v, HW.out, K0.out⟩

set_option maxRecDepth 100000 in
set_option maxHeartbeats 4000000 in
theorem cerrs_any (p b o c : Nat) (xs : List Int) (w : World) (v0 : Value) (l0 : List Int) (lg bz : Bool) (h : Wr w p v0 l0 lg bz) (ha : HoldsN w (some ⟨b, o, none⟩) xs.length c xs) (hb1 : b ≠ p) (hb2 : v0.ownBlock ≠ some b) (hx : ∀ x ∈ xs, I64 x) (hm : l0.length + 9 * xs.length ≤ 140737488355328) :
    Calls Try.prog 70 #[.pointer (some ⟨p, 0, none⟩), .slice (some ⟨b, o, none⟩) xs.length c] w fun e w' => (∃ r, e = .returned r) ∧ ∃ v', Wr w' p v' (l0 ++ bytesZ xs) lg bz ∧ WK p v0 w w' v' := by
  have HW0 := hid h
  have HA := hid ha
  have HX := hid hx
  have hcap := ha.2.1
  have hcm := ha.2.2.1
  clear h ha hx
  generalize hn : xs.length = n at *
  have HN := hid hn
  clear hn
  go_enter Try.func70, Try.ntmps70
  go_wp2_with fail
  go_loopw [8] (fun i wr => ∃ k : Nat, k ≤ n ∧ i = .int .i64 (k : Int) ∧ ∃ v', Hid (Wr wr p v' (l0 ++ bytesZ (xs.take k)) lg bz) ∧ Hid (WK p v0 w wr v')) (fun i _ => n - (intOf i).toNat)
  case atStart => exact ⟨0, by omega, rfl, v0, by unfold Hid; simpa [bytesZ] using HW0.out, WK.refl _ _ _⟩
  case round =>
    obtain ⟨k, hk, rfl, v, HW, K0⟩ := hrel
    by_cases hlt : k < n
    · have hlt' : k < xs.length := by rw [HN.out]; exact hlt
      obtain ⟨ab, ao, e, RI⟩ := HA.out.rowN (by omega)
      cases e
      have c0 := K0.out.cell (RI k hlt) hb1 hb2
      have SN := hid (bytesZ_snoc hlt')
      have hbl := bytesZ_len (xs.take k)
      have hxk : I64 (xs[k]?.getD 0) := HX.out _ (by rw [List.getElem?_eq_getElem hlt']; exact List.getElem_mem hlt')
      have ka : (0 : Int) ≤ (k : Int) := by omega
      have kb : (k : Int) < (n : Int) := by omega
      have hl9 : (l0 ++ bytesZ (xs.take k)).length + 9 ≤ 140737488355328 := by
        rw [List.length_append]
        rw [List.length_take] at hbl
        omega
      clear RI hbl
      generalize xs[k]?.getD 0 = x at *
      have LAY := hid (fun W => layint0_any x W hxk)
      have hn9 : (numB (zig x)).length ≤ 9 := by rw [numB_len]; have := shelf_le (zig x); omega
      clear hxk
      generalize hll : l0 ++ bytesZ (xs.take k) = l at *
      have HLL := hid hll
      clear hll
      generalize numB (zig x) = BS at *
      go_upto_region 3 with fail
      clear c0
      have HD := hid (HW.out.below (Below.drew (Below.refl wr.heap.size wr)))
      have KD : Hid (WK p v wr wr.drew v) := WK.of_below (Below.drew (Below.refl _ _))
      refine wp_region_held_drew (S := fun _ => True) (by kernel_rfl) trivial (fun hHeld => ?_)
      refine wpAnyH_take (i := 0) (v := .pointer (some ⟨p, 0, none⟩)) rfl (by kernel_rfl) (by kernel_rfl) (by kernel_rfl) (fun _ _ _ h => h) (Or.inl ⟨by rfl, ?_⟩) (by assumption) ?_
      · (intro w hSw; (try dsimp only at hSw); go_simp)
      (try simp only [Act.put, List.getElem_toArray, List.getElem_cons_succ, List.getElem_cons_zero, List.setIfInBounds_toArray, List.set_cons_zero, List.set_cons_succ])
      refine wpAnyH_take (i := 1) (v := .pointer (some ⟨p, 0, none⟩)) rfl (by kernel_rfl) (by kernel_rfl) (by kernel_rfl) (fun _ _ _ h => h) (Or.inl ⟨by rfl, ?_⟩) (by assumption) ?_
      · (intro w hSw; (try dsimp only at hSw); go_simp)
      (try simp only [Act.put, List.getElem_toArray, List.getElem_cons_succ, List.getElem_cons_zero, List.setIfInBounds_toArray, List.set_cons_zero, List.set_cons_succ])
      refine wpAnyH_take (i := 2) (v := .pointer (some ⟨p, 0, none⟩)) rfl (by kernel_rfl) (by kernel_rfl) (by kernel_rfl) (fun _ _ _ h => h) (Or.inl ⟨by rfl, ?_⟩) (by assumption) ?_
      · (intro w hSw; (try dsimp only at hSw); go_simp)
      (try simp only [Act.put, List.getElem_toArray, List.getElem_cons_succ, List.getElem_cons_zero, List.setIfInBounds_toArray, List.set_cons_zero, List.set_cons_succ])
      refine wpAnyH_take (i := 3) (v := .pointer (some ⟨p, 0, none⟩)) rfl (by kernel_rfl) (by kernel_rfl) (by kernel_rfl) (fun _ _ _ h => h) (Or.inl ⟨by rfl, ?_⟩) (by assumption) ?_
      · (intro w hSw; (try dsimp only at hSw); go_simp)
      (try simp only [Act.put, List.getElem_toArray, List.getElem_cons_succ, List.getElem_cons_zero, List.setIfInBounds_toArray, List.set_cons_zero, List.set_cons_succ])
      refine wpAnyH_take (i := 5) (v := .int .i64 x) rfl (by kernel_rfl) (by kernel_rfl) (by kernel_rfl) (fun _ _ _ h => h) (Or.inl ⟨by rfl, ?_⟩) (by assumption) ?_
      · (intro w hSw; (try dsimp only at hSw); go_simp)
      (try simp only [Act.put, List.getElem_toArray, List.getElem_cons_succ, List.getElem_cons_zero, List.setIfInBounds_toArray, List.set_cons_zero, List.set_cons_succ])
      generalize wr.drew = wd at *
      refine wpAnyH_ready (rs := [4, 6]) (by kernel_rfl) (by simp) ?_
      refine AllReadyH.cons rfl (fun K hK => ?_) ?_
      · skip
        have c0 := HD.out.1.1.1
        go_simp
        refine hK.out _ _ trivial (fun hHeld => ?_)
        clear hK K c0
        (try simp only [Act.put, List.getElem_toArray, List.getElem_cons_succ, List.getElem_cons_zero, List.setIfInBounds_toArray, List.set_cons_zero, List.set_cons_succ])
        refine wpAnyH_ready (rs := [6]) (by kernel_rfl) (by simp) ?_
        refine AllReadyH.cons rfl (fun K hK => ?_) AllReadyH.nil
        go_simp
        with_reducible refine (LAY.out _).mono ?_
        rintro e x1 ⟨g, rfl, o1, b1⟩
        have HR := hid (HD.out.below b1)
        have KR := hid (KD.out.trans (WK.of_below b1))
        have HB8 := hid o1
        clear o1 b1
        refine hK.out _ _ trivial (fun hHeld => ?_)
        clear hK K
        (try simp only [Act.put, List.getElem_toArray, List.getElem_cons_succ, List.getElem_cons_zero, List.setIfInBounds_toArray, List.set_cons_zero, List.set_cons_succ])
        refine wpAnyH_ready (rs := [7]) (by kernel_rfl) (by simp) ?_
        refine AllReadyH.cons rfl (fun K hK => ?_) AllReadyH.nil
        refine appB_step x1 rfl (.tmp 16) (.tmp 18) rfl (p + 1) l.length v l rfl HR.out.2 (by have := HR.out.lt; omega) (some ⟨g, 0, none⟩) BS.length BS.length BS rfl HB8.out (by omega) ?_
        intro v' w9 oo hg hv
        obtain ⟨va, vc, rfl⟩ := oo.form
        have hblk : w9.heap[p]? = x1.heap[p]? := hg.block p HR.out.lt (fun e => by have := HR.out.row p e.symm; omega)
        have d1 : w9.cell? ⟨p, 0, none⟩ = some v := (World.cell?_of_block hblk).trans HR.out.1.1.1
        have g1 : w9.frozen? ⟨p, 0, none⟩ = false := (World.frozen?_of_block hblk).trans HR.out.1.2.1
        have PW := hid (wr_put HR.out hg hv (l' := l ++ BS) (by rw [List.length_append]; exact oo))
        clear hg hv oo hblk
        refine hK.out _ _ trivial (fun hHeld => ?_)
        clear hK K
        (try simp only [Act.put, List.getElem_toArray, List.getElem_cons_succ, List.getElem_cons_zero, List.setIfInBounds_toArray, List.set_cons_zero, List.set_cons_succ])
        refine wpAnyH_take (i := 8) (v := .pointer (some ⟨p, 0, none⟩)) rfl (by kernel_rfl) (by kernel_rfl) (by kernel_rfl) (fun _ _ _ h => h) (Or.inl ⟨by rfl, ?_⟩) (by assumption) ?_
        · (intro w hSw; (try dsimp only at hSw); go_simp)
        (try simp only [Act.put, List.getElem_toArray, List.getElem_cons_succ, List.getElem_cons_zero, List.setIfInBounds_toArray, List.set_cons_zero, List.set_cons_succ])
        refine wpAnyH_take (i := 9) (v := .pointer (some ⟨p, 0, none⟩)) rfl (by kernel_rfl) (by kernel_rfl) (by kernel_rfl) (fun _ _ _ h => h) (Or.inl ⟨by rfl, ?_⟩) (by assumption) ?_
        · (intro w hSw; (try dsimp only at hSw); go_simp)
        (try simp only [Act.put, List.getElem_toArray, List.getElem_cons_succ, List.getElem_cons_zero, List.setIfInBounds_toArray, List.set_cons_zero, List.set_cons_succ])
        refine wpAnyH_ready (rs := [10]) (by kernel_rfl) (by simp) ?_
        refine AllReadyH.cons rfl (fun K hK => ?_) AllReadyH.nil
        go_simp
        refine hK.out _ _ trivial (fun hHeld => ?_)
        clear hK K d1 g1
        (try simp only [Act.put, List.getElem_toArray, List.getElem_cons_succ, List.getElem_cons_zero, List.setIfInBounds_toArray, List.set_cons_zero, List.set_cons_succ])
        refine wpAnyH_done (by kernel_rfl) ?_ _
        clear hHeld
        have HF := hid PW.out.1
        have KF := hid (KR.out.trans PW.out.2)
        clear PW HR KR HB8 HD KD
        generalize w9.setCell ⟨p, 0, none⟩ (.slice va (l.length + BS.length) vc) = wf at *
        have KZ := hid (K0.out.trans KF.out)
        go_wp2_with fail
        refine ⟨⟨k + 1, by omega, by go_num, ⟨_, by rw [SN.out, ← List.append_assoc, HLL.out]; exact HF.out, KZ.out⟩⟩, ?_⟩
        simp [intOf]; omega
      refine AllReadyH.cons rfl (fun K hK => ?_) AllReadyH.nil
      go_simp
      with_reducible refine (LAY.out _).mono ?_
      rintro e x1 ⟨g, rfl, o1, b1⟩
      have HR := hid (HD.out.below b1)
      have KR := hid (KD.out.trans (WK.of_below b1))
      have HB8 := hid o1
      clear o1 b1
      refine hK.out _ _ trivial (fun hHeld => ?_)
      clear hK K
      (try simp only [Act.put, List.getElem_toArray, List.getElem_cons_succ, List.getElem_cons_zero, List.setIfInBounds_toArray, List.set_cons_zero, List.set_cons_succ])
      have c0 := HR.out.1.1.1
      refine wpAnyH_ready (rs := [4]) (by kernel_rfl) (by simp) ?_
      refine AllReadyH.cons rfl (fun K hK => ?_) AllReadyH.nil
      go_simp
      refine hK.out _ _ trivial (fun hHeld => ?_)
      clear hK K c0
      (try simp only [Act.put, List.getElem_toArray, List.getElem_cons_succ, List.getElem_cons_zero, List.setIfInBounds_toArray, List.set_cons_zero, List.set_cons_succ])
      refine wpAnyH_ready (rs := [7]) (by kernel_rfl) (by simp) ?_
      refine AllReadyH.cons rfl (fun K hK => ?_) AllReadyH.nil
      refine appB_step x1 rfl (.tmp 16) (.tmp 18) rfl (p + 1) l.length v l rfl HR.out.2 (by have := HR.out.lt; omega) (some ⟨g, 0, none⟩) BS.length BS.length BS rfl HB8.out (by omega) ?_
      intro v' w9 oo hg hv
      obtain ⟨va, vc, rfl⟩ := oo.form
      have hblk : w9.heap[p]? = x1.heap[p]? := hg.block p HR.out.lt (fun e => by have := HR.out.row p e.symm; omega)
      have d1 : w9.cell? ⟨p, 0, none⟩ = some v := (World.cell?_of_block hblk).trans HR.out.1.1.1
      have g1 : w9.frozen? ⟨p, 0, none⟩ = false := (World.frozen?_of_block hblk).trans HR.out.1.2.1
      have PW := hid (wr_put HR.out hg hv (l' := l ++ BS) (by rw [List.length_append]; exact oo))
      clear hg hv oo hblk
      refine hK.out _ _ trivial (fun hHeld => ?_)
      clear hK K
      (try simp only [Act.put, List.getElem_toArray, List.getElem_cons_succ, List.getElem_cons_zero, List.setIfInBounds_toArray, List.set_cons_zero, List.set_cons_succ])
      refine wpAnyH_take (i := 8) (v := .pointer (some ⟨p, 0, none⟩)) rfl (by kernel_rfl) (by kernel_rfl) (by kernel_rfl) (fun _ _ _ h => h) (Or.inl ⟨by rfl, ?_⟩) (by assumption) ?_
      · (intro w hSw; (try dsimp only at hSw); go_simp)
      (try simp only [Act.put, List.getElem_toArray, List.getElem_cons_succ, List.getElem_cons_zero, List.setIfInBounds_toArray, List.set_cons_zero, List.set_cons_succ])
      refine wpAnyH_take (i := 9) (v := .pointer (some ⟨p, 0, none⟩)) rfl (by kernel_rfl) (by kernel_rfl) (by kernel_rfl) (fun _ _ _ h => h) (Or.inl ⟨by rfl, ?_⟩) (by assumption) ?_
      · (intro w hSw; (try dsimp only at hSw); go_simp)
      (try simp only [Act.put, List.getElem_toArray, List.getElem_cons_succ, List.getElem_cons_zero, List.setIfInBounds_toArray, List.set_cons_zero, List.set_cons_succ])
      refine wpAnyH_ready (rs := [10]) (by kernel_rfl) (by simp) ?_
      refine AllReadyH.cons rfl (fun K hK => ?_) AllReadyH.nil
      go_simp
      refine hK.out _ _ trivial (fun hHeld => ?_)
      clear hK K d1 g1
      (try simp only [Act.put, List.getElem_toArray, List.getElem_cons_succ, List.getElem_cons_zero, List.setIfInBounds_toArray, List.set_cons_zero, List.set_cons_succ])
      refine wpAnyH_done (by kernel_rfl) ?_ _
      clear hHeld
      have HF := hid PW.out.1
      have KF := hid (KR.out.trans PW.out.2)
      clear PW HR KR HB8 HD KD
      generalize w9.setCell ⟨p, 0, none⟩ (.slice va (l.length + BS.length) vc) = wf at *
      have KZ := hid (K0.out.trans KF.out)
      go_wp2_with fail
      refine ⟨⟨k + 1, by omega, by go_num, ⟨_, by rw [SN.out, ← List.append_assoc, HLL.out]; exact HF.out, KZ.out⟩⟩, ?_⟩
      simp [intOf]; omega
    · obtain rfl : n = k := by omega
      have e : xs.take n = xs := List.take_of_length_le (by rw [HN.out]; exact Nat.le_refl _)
      rw [e] at HW
      go_wp2_with fail
      go_end0
      exact ⟨⟨_, rfl⟩, v, HW.out, K0.out⟩
end Go.Proofs.Ythkbddnkcljjpaa

namespace Go.Proofs.Ythkbddnkcljjpaa
open Go.RowKit Go.Deep
set_option linter.unusedVariables false
set_option linter.unusedSimpArgs false

theorem bytesZ_len' (xs : List Int) : (bytesZ xs).length = (bytesZ xs).length := rfl
theorem ints_lit (p : Nat) (xs : List Int) (W : World) (v : Value) (l : List Int) (lg bz : Bool) (h : Wr W p v l lg bz) (cs : Array Value) (hcs : cs.toList = xs.flatMap encN) (n : Nat) (hn : xs.length = n) (hxl : n ≤ 64) (hx : ∀ x ∈ xs, I64 x) (hm : l.length + 9 * n ≤ 140737488355328) :
    Calls Try.prog 67 #[.pointer (some ⟨p, 0, none⟩), .slice (some ⟨W.heap.size, 0, none⟩) n n] (W.alloc (.cells cs 3)) fun e w' => (∃ r, e = .returned r) ∧ ∃ v', Wr w' p v' (l ++ bytesZ xs) lg bz ∧ WK p v W w' v' := by
  subst hn
  have ba := (Below.refl W.heap.size W).alloc (Nat.le_refl _) (.cells cs 3)
  refine (cints_any p W.heap.size 0 xs.length xs (W.alloc (.cells cs 3)) v l lg bz (h.below ba) ⟨rfl, Nat.le_refl _, by omega, (fun h => by cases h), fun _ => ⟨W.heap.size, 0, rfl, by simp, fun j x hx i u hu => ?_⟩⟩ (Nat.ne_of_gt h.lt) (fun e => by have := h.row _ e; omega) hx hm).mono ?_
  · rw [Nat.zero_add, cell_of_row _ W.heap.size _ cs _ (0, 0) (heap_alloc_new W _), ← Array.getElem?_toList, hcs]
    exact flat_get encN_len xs j x i u hx hu
  · rintro e w' ⟨hr, v', h1, h2⟩
    exact ⟨hr, v', h1, (WK.of_below ba).trans h2⟩

theorem ints64_lit (p : Nat) (xs : List Int) (W : World) (v : Value) (l : List Int) (lg bz : Bool) (h : Wr W p v l lg bz) (cs : Array Value) (hcs : cs.toList = xs.flatMap encN) (n : Nat) (hn : xs.length = n) (hxl : n ≤ 64) (hx : ∀ x ∈ xs, I64 x) (hm : l.length + 9 * n ≤ 140737488355328) :
    Calls Try.prog 66 #[.pointer (some ⟨p, 0, none⟩), .slice (some ⟨W.heap.size, 0, none⟩) n n] (W.alloc (.cells cs 2)) fun e w' => (∃ r, e = .returned r) ∧ ∃ v', Wr w' p v' (l ++ bytesZ xs) lg bz ∧ WK p v W w' v' := by
  subst hn
  have ba := (Below.refl W.heap.size W).alloc (Nat.le_refl _) (.cells cs 2)
  refine (cints64_any p W.heap.size 0 xs.length xs (W.alloc (.cells cs 2)) v l lg bz (h.below ba) ⟨rfl, Nat.le_refl _, by omega, (fun h => by cases h), fun _ => ⟨W.heap.size, 0, rfl, by simp, fun j x hx i u hu => ?_⟩⟩ (Nat.ne_of_gt h.lt) (fun e => by have := h.row _ e; omega) hx hm).mono ?_
  · rw [Nat.zero_add, cell_of_row _ W.heap.size _ cs _ (0, 0) (heap_alloc_new W _), ← Array.getElem?_toList, hcs]
    exact flat_get encN_len xs j x i u hx hu
  · rintro e w' ⟨hr, v', h1, h2⟩
    exact ⟨hr, v', h1, (WK.of_below ba).trans h2⟩

theorem errs_lit (p : Nat) (xs : List Int) (W : World) (v : Value) (l : List Int) (lg bz : Bool) (h : Wr W p v l lg bz) (cs : Array Value) (hcs : cs.toList = xs.flatMap encN) (n : Nat) (hn : xs.length = n) (hxl : n ≤ 64) (hx : ∀ x ∈ xs, I64 x) (hm : l.length + 9 * n ≤ 140737488355328) :
    Calls Try.prog 70 #[.pointer (some ⟨p, 0, none⟩), .slice (some ⟨W.heap.size, 0, none⟩) n n] (W.alloc (.cells cs 38)) fun e w' => (∃ r, e = .returned r) ∧ ∃ v', Wr w' p v' (l ++ bytesZ xs) lg bz ∧ WK p v W w' v' := by
  subst hn
  have ba := (Below.refl W.heap.size W).alloc (Nat.le_refl _) (.cells cs 38)
  refine (cerrs_any p W.heap.size 0 xs.length xs (W.alloc (.cells cs 38)) v l lg bz (h.below ba) ⟨rfl, Nat.le_refl _, by omega, (fun h => by cases h), fun _ => ⟨W.heap.size, 0, rfl, by simp, fun j x hx i u hu => ?_⟩⟩ (Nat.ne_of_gt h.lt) (fun e => by have := h.row _ e; omega) hx hm).mono ?_
  · rw [Nat.zero_add, cell_of_row _ W.heap.size _ cs _ (0, 0) (heap_alloc_new W _), ← Array.getElem?_toList, hcs]
    exact flat_get encN_len xs j x i u hx hu
  · rintro e w' ⟨hr, v', h1, h2⟩
    exact ⟨hr, v', h1, (WK.of_below ba).trans h2⟩

set_option maxRecDepth 100000 in
set_option maxHeartbeats 4000000 in
theorem cint_any (p : Nat) (x : Int) (w : World) (v : Value) (l : List Int) (lg bz : Bool) (h : Wr w p v l lg bz) (ix : I64 x) (hm : l.length + 9 ≤ 140737488355328) :
    Calls Try.prog 72 #[.pointer (some ⟨p, 0, none⟩), .int .i64 x] w fun e w' => (∃ r, e = .returned r) ∧ ∃ v', Wr w' p v' (l ++ numB (zig x)) lg bz ∧ WK p v w w' v' := by
  have HW := hid h
  have HP := h.lt
  have HRO := h.row
  clear h
  go_enter Try.func72, Try.ntmps72
  have K0 : Hid (WK p v w w v) := WK.refl _ _ _
  have H0 := HW
  have C1 := hid (ints_lit p [x] w v l _ _ H0.out #[.int .i64 x] rfl 1 rfl (by decide) (by intro x hx; simp only [List.mem_cons, List.not_mem_nil, or_false] at hx; rcases hx with rfl <;> assumption) (by omega))
  go_wp2_with fail
  with_reducible refine C1.out.mono ?_
  rintro e W1 ⟨⟨r1, rfl⟩, v1, h1, k1⟩
  have H1 := hid h1
  have K1 := hid (K0.out.trans k1)
  clear C1 h1 k1 H0 K0
  go_wp2_with fail
  go_end0
  exact ⟨⟨_, rfl⟩, _, by simpa [bytesZ, List.append_assoc] using H1.out, K1.out⟩

set_option maxRecDepth 100000 in
set_option maxHeartbeats 4000000 in
theorem cvec_any (p : Nat) (c m : Int) (w : World) (v : Value) (l : List Int) (lg bz : Bool) (h : Wr w p v l lg bz) (ic : I64 c) (im : I64 m) (hm : l.length + 18 ≤ 140737488355328) :
    Calls Try.prog 106 #[.pointer (some ⟨p, 0, none⟩), .agg #[.int .i64 c, .int .i64 m]] w fun e w' => (∃ r, e = .returned r) ∧ ∃ v', Wr w' p v' (l ++ bytesZ [c, m]) lg bz ∧ WK p v w w' v' := by
  have HW := hid h
  have HP := h.lt
  have HRO := h.row
  clear h
  go_enter Try.func106, Try.ntmps106
  go_upto_region 1 with fail
  have K0 : Hid (WK p v w (w.alloc (.cells #[.int .i64 c, .int .i64 m] 23)) v) := WK.of_below ((Below.refl _ w).alloc (Nat.le_refl _) _)
  have H0 := hid (HW.out.below ((Below.refl w.heap.size w).alloc (Nat.le_refl _) (.cells #[.int .i64 c, .int .i64 m] 23)))
  have y0 : (w.alloc (.cells #[.int .i64 c, .int .i64 m] 23)).cell? ⟨w.heap.size, 0, none⟩ = some (.int .i64 c) := by simp [go_sem]
  have y1 : (w.alloc (.cells #[.int .i64 c, .int .i64 m] 23)).cell? ⟨w.heap.size, 1, none⟩ = some (.int .i64 m) := by simp [go_sem]
  have NB0 : v.ownBlock ≠ some w.heap.size := fun e => by have := HRO _ e; omega
  have hQp : w.heap.size ≠ p := by omega
  have hQl : w.heap.size < (w.alloc (.cells #[.int .i64 c, .int .i64 m] 23)).heap.size := by simp
  clear HW HP HRO
  generalize (w.alloc (.cells #[.int .i64 c, .int .i64 m] 23)) = W0 at *
  generalize w.heap.size = QK at *
  have C1 := hid (ints64_lit p [c, m] W0 v l _ _ H0.out #[.int .i64 c, .int .i64 m] rfl 2 rfl (by decide) (by intro x hx; simp only [List.mem_cons, List.not_mem_nil, or_false] at hx; rcases hx with rfl | rfl <;> assumption) (by omega))
  go_wp2_with fail
  with_reducible refine C1.out.mono ?_
  rintro e W1 ⟨⟨r1, rfl⟩, v1, h1, k1⟩
  replace y0 := k1.cell y0 hQp NB0
  replace y1 := k1.cell y1 hQp NB0
  have hQl1 := Nat.lt_of_lt_of_le hQl k1.size
  have NB1 : v1.ownBlock ≠ some QK := fun e => by rcases k1.row _ e with e | e; exact NB0 e; have := hQl; omega
  have H1 := hid h1
  have K1 := hid (K0.out.trans k1)
  clear C1 h1 k1 H0 K0
  go_wp2_with fail
  go_end0
  exact ⟨⟨_, rfl⟩, _, by simpa [bytesZ, List.append_assoc] using H1.out, K1.out⟩

set_option maxRecDepth 100000 in
set_option maxHeartbeats 4000000 in
theorem cqueue_any (p : Nat) (q1 q2 q3 q4 q5 q6 q7 : Int) (w : World) (v : Value) (l : List Int) (lg bz : Bool) (h : Wr w p v l lg bz) (iq1 : I64 q1) (iq2 : I64 q2) (iq3 : I64 q3) (iq4 : I64 q4) (iq5 : I64 q5) (iq6 : I64 q6) (iq7 : I64 q7) (hm : l.length + 63 ≤ 140737488355328) :
    Calls Try.prog 77 #[.pointer (some ⟨p, 0, none⟩), .agg #[.int .i64 q1, .int .i64 q2, .int .i64 q3, .int .i64 q4, .int .i64 q5, .int .i64 q6, .int .i64 q7]] w fun e w' => (∃ r, e = .returned r) ∧ ∃ v', Wr w' p v' (l ++ bytesZ [q1, q2, q3, q4, q5, q6, q7]) lg bz ∧ WK p v w w' v' := by
  have HW := hid h
  have HP := h.lt
  have HRO := h.row
  clear h
  go_enter Try.func77, Try.ntmps77
  go_upto_region 1 with fail
  have K0 : Hid (WK p v w (w.alloc (.cells #[.int .i64 q1, .int .i64 q2, .int .i64 q3, .int .i64 q4, .int .i64 q5, .int .i64 q6, .int .i64 q7] 25)) v) := WK.of_below ((Below.refl _ w).alloc (Nat.le_refl _) _)
  have H0 := hid (HW.out.below ((Below.refl w.heap.size w).alloc (Nat.le_refl _) (.cells #[.int .i64 q1, .int .i64 q2, .int .i64 q3, .int .i64 q4, .int .i64 q5, .int .i64 q6, .int .i64 q7] 25)))
  have y0 : (w.alloc (.cells #[.int .i64 q1, .int .i64 q2, .int .i64 q3, .int .i64 q4, .int .i64 q5, .int .i64 q6, .int .i64 q7] 25)).cell? ⟨w.heap.size, 0, none⟩ = some (.int .i64 q1) := by simp [go_sem]
  have y1 : (w.alloc (.cells #[.int .i64 q1, .int .i64 q2, .int .i64 q3, .int .i64 q4, .int .i64 q5, .int .i64 q6, .int .i64 q7] 25)).cell? ⟨w.heap.size, 1, none⟩ = some (.int .i64 q2) := by simp [go_sem]
  have y2 : (w.alloc (.cells #[.int .i64 q1, .int .i64 q2, .int .i64 q3, .int .i64 q4, .int .i64 q5, .int .i64 q6, .int .i64 q7] 25)).cell? ⟨w.heap.size, 2, none⟩ = some (.int .i64 q3) := by simp [go_sem]
  have y3 : (w.alloc (.cells #[.int .i64 q1, .int .i64 q2, .int .i64 q3, .int .i64 q4, .int .i64 q5, .int .i64 q6, .int .i64 q7] 25)).cell? ⟨w.heap.size, 3, none⟩ = some (.int .i64 q4) := by simp [go_sem]
  have y4 : (w.alloc (.cells #[.int .i64 q1, .int .i64 q2, .int .i64 q3, .int .i64 q4, .int .i64 q5, .int .i64 q6, .int .i64 q7] 25)).cell? ⟨w.heap.size, 4, none⟩ = some (.int .i64 q5) := by simp [go_sem]
  have y5 : (w.alloc (.cells #[.int .i64 q1, .int .i64 q2, .int .i64 q3, .int .i64 q4, .int .i64 q5, .int .i64 q6, .int .i64 q7] 25)).cell? ⟨w.heap.size, 5, none⟩ = some (.int .i64 q6) := by simp [go_sem]
  have y6 : (w.alloc (.cells #[.int .i64 q1, .int .i64 q2, .int .i64 q3, .int .i64 q4, .int .i64 q5, .int .i64 q6, .int .i64 q7] 25)).cell? ⟨w.heap.size, 6, none⟩ = some (.int .i64 q7) := by simp [go_sem]
  have NB0 : v.ownBlock ≠ some w.heap.size := fun e => by have := HRO _ e; omega
  have hQp : w.heap.size ≠ p := by omega
  have hQl : w.heap.size < (w.alloc (.cells #[.int .i64 q1, .int .i64 q2, .int .i64 q3, .int .i64 q4, .int .i64 q5, .int .i64 q6, .int .i64 q7] 25)).heap.size := by simp
  clear HW HP HRO
  generalize (w.alloc (.cells #[.int .i64 q1, .int .i64 q2, .int .i64 q3, .int .i64 q4, .int .i64 q5, .int .i64 q6, .int .i64 q7] 25)) = W0 at *
  generalize w.heap.size = QK at *
  have C1 := hid (ints_lit p [q1, q2] W0 v l _ _ H0.out #[.int .i64 q1, .int .i64 q2] rfl 2 rfl (by decide) (by intro x hx; simp only [List.mem_cons, List.not_mem_nil, or_false] at hx; rcases hx with rfl | rfl <;> assumption) (by omega))
  go_wp2_with fail
  with_reducible refine C1.out.mono ?_
  rintro e W1 ⟨⟨r1, rfl⟩, v1, h1, k1⟩
  replace y0 := k1.cell y0 hQp NB0
  replace y1 := k1.cell y1 hQp NB0
  replace y2 := k1.cell y2 hQp NB0
  replace y3 := k1.cell y3 hQp NB0
  replace y4 := k1.cell y4 hQp NB0
  replace y5 := k1.cell y5 hQp NB0
  replace y6 := k1.cell y6 hQp NB0
  have hQl1 := Nat.lt_of_lt_of_le hQl k1.size
  have NB1 : v1.ownBlock ≠ some QK := fun e => by rcases k1.row _ e with e | e; exact NB0 e; have := hQl; omega
  have H1 := hid h1
  have K1 := hid (K0.out.trans k1)
  clear C1 h1 k1 H0 K0
  have C2 := hid (ints64_lit p [q3] W1 v1 (l ++ bytesZ [q1, q2]) _ _ H1.out #[.int .i64 q3] rfl 1 rfl (by decide) (by intro x hx; simp only [List.mem_cons, List.not_mem_nil, or_false] at hx; rcases hx with rfl <;> assumption) (by have b0 := bytesZ_len [q1, q2]; simp only [List.length_append, List.length_cons, List.length_nil] at *; omega))
  go_wp2_with fail
  with_reducible refine C2.out.mono ?_
  rintro e W2 ⟨⟨r2, rfl⟩, v2, h2, k2⟩
  replace y0 := k2.cell y0 hQp NB1
  replace y1 := k2.cell y1 hQp NB1
  replace y2 := k2.cell y2 hQp NB1
  replace y3 := k2.cell y3 hQp NB1
  replace y4 := k2.cell y4 hQp NB1
  replace y5 := k2.cell y5 hQp NB1
  replace y6 := k2.cell y6 hQp NB1
  have hQl2 := Nat.lt_of_lt_of_le hQl1 k2.size
  have NB2 : v2.ownBlock ≠ some QK := fun e => by rcases k2.row _ e with e | e; exact NB1 e; have := hQl1; omega
  have H2 := hid h2
  have K2 := hid (K1.out.trans k2)
  clear C2 h2 k2 H1 K1
  have C3 := hid (cvec_any p q4 q5 W2 v2 ((l ++ bytesZ [q1, q2]) ++ bytesZ [q3]) _ _ H2.out iq4 iq5 (by have b0 := bytesZ_len [q1, q2]; have b1 := bytesZ_len [q3]; simp only [List.length_append, List.length_cons, List.length_nil] at *; omega))
  go_wp2_with fail
  with_reducible refine C3.out.mono ?_
  rintro e W3 ⟨⟨r3, rfl⟩, v3, h3, k3⟩
  replace y0 := k3.cell y0 hQp NB2
  replace y1 := k3.cell y1 hQp NB2
  replace y2 := k3.cell y2 hQp NB2
  replace y3 := k3.cell y3 hQp NB2
  replace y4 := k3.cell y4 hQp NB2
  replace y5 := k3.cell y5 hQp NB2
  replace y6 := k3.cell y6 hQp NB2
  have hQl3 := Nat.lt_of_lt_of_le hQl2 k3.size
  have NB3 : v3.ownBlock ≠ some QK := fun e => by rcases k3.row _ e with e | e; exact NB2 e; have := hQl2; omega
  have H3 := hid h3
  have K3 := hid (K2.out.trans k3)
  clear C3 h3 k3 H2 K2
  have C4 := hid (cvec_any p q6 q7 W3 v3 (((l ++ bytesZ [q1, q2]) ++ bytesZ [q3]) ++ bytesZ [q4, q5]) _ _ H3.out iq6 iq7 (by have b0 := bytesZ_len [q1, q2]; have b1 := bytesZ_len [q3]; have b2 := bytesZ_len [q4, q5]; simp only [List.length_append, List.length_cons, List.length_nil] at *; omega))
  go_wp2_with fail
  with_reducible refine C4.out.mono ?_
  rintro e W4 ⟨⟨r4, rfl⟩, v4, h4, k4⟩
  replace y0 := k4.cell y0 hQp NB3
  replace y1 := k4.cell y1 hQp NB3
  replace y2 := k4.cell y2 hQp NB3
  replace y3 := k4.cell y3 hQp NB3
  replace y4 := k4.cell y4 hQp NB3
  replace y5 := k4.cell y5 hQp NB3
  replace y6 := k4.cell y6 hQp NB3
  have hQl4 := Nat.lt_of_lt_of_le hQl3 k4.size
  have NB4 : v4.ownBlock ≠ some QK := fun e => by rcases k4.row _ e with e | e; exact NB3 e; have := hQl3; omega
  have H4 := hid h4
  have K4 := hid (K3.out.trans k4)
  clear C4 h4 k4 H3 K3
  go_wp2_with fail
  go_end0
  exact ⟨⟨_, rfl⟩, _, by simpa [bytesZ, List.append_assoc] using H4.out, K4.out⟩

set_option maxRecDepth 100000 in
set_option maxHeartbeats 4000000 in
theorem cnode_any (p : Nat) (n1 n2 n3 n4 n5 : Int) (w : World) (v : Value) (l : List Int) (lg bz : Bool) (h : Wr w p v l lg bz) (in1 : I64 n1) (in2 : I64 n2) (in3 : I64 n3) (in4 : I64 n4) (in5 : I64 n5) (hm : l.length + 45 ≤ 140737488355328) :
    Calls Try.prog 79 #[.pointer (some ⟨p, 0, none⟩), .agg #[.int .i64 n1, .int .i64 n2, .int .i64 n3, .int .i64 n4, .int .i64 n5]] w fun e w' => (∃ r, e = .returned r) ∧ ∃ v', Wr w' p v' (l ++ bytesZ [n1, n2, n3, n4, n5]) lg bz ∧ WK p v w w' v' := by
  have HW := hid h
  have HP := h.lt
  have HRO := h.row
  clear h
  go_enter Try.func79, Try.ntmps79
  go_upto_region 1 with fail
  have K0 : Hid (WK p v w (w.alloc (.cells #[.int .i64 n1, .int .i64 n2, .int .i64 n3, .int .i64 n4, .int .i64 n5] 27)) v) := WK.of_below ((Below.refl _ w).alloc (Nat.le_refl _) _)
  have H0 := hid (HW.out.below ((Below.refl w.heap.size w).alloc (Nat.le_refl _) (.cells #[.int .i64 n1, .int .i64 n2, .int .i64 n3, .int .i64 n4, .int .i64 n5] 27)))
  have y0 : (w.alloc (.cells #[.int .i64 n1, .int .i64 n2, .int .i64 n3, .int .i64 n4, .int .i64 n5] 27)).cell? ⟨w.heap.size, 0, none⟩ = some (.int .i64 n1) := by simp [go_sem]
  have y1 : (w.alloc (.cells #[.int .i64 n1, .int .i64 n2, .int .i64 n3, .int .i64 n4, .int .i64 n5] 27)).cell? ⟨w.heap.size, 1, none⟩ = some (.int .i64 n2) := by simp [go_sem]
  have y2 : (w.alloc (.cells #[.int .i64 n1, .int .i64 n2, .int .i64 n3, .int .i64 n4, .int .i64 n5] 27)).cell? ⟨w.heap.size, 2, none⟩ = some (.int .i64 n3) := by simp [go_sem]
  have y3 : (w.alloc (.cells #[.int .i64 n1, .int .i64 n2, .int .i64 n3, .int .i64 n4, .int .i64 n5] 27)).cell? ⟨w.heap.size, 3, none⟩ = some (.int .i64 n4) := by simp [go_sem]
  have y4 : (w.alloc (.cells #[.int .i64 n1, .int .i64 n2, .int .i64 n3, .int .i64 n4, .int .i64 n5] 27)).cell? ⟨w.heap.size, 4, none⟩ = some (.int .i64 n5) := by simp [go_sem]
  have NB0 : v.ownBlock ≠ some w.heap.size := fun e => by have := HRO _ e; omega
  have hQp : w.heap.size ≠ p := by omega
  have hQl : w.heap.size < (w.alloc (.cells #[.int .i64 n1, .int .i64 n2, .int .i64 n3, .int .i64 n4, .int .i64 n5] 27)).heap.size := by simp
  clear HW HP HRO
  generalize (w.alloc (.cells #[.int .i64 n1, .int .i64 n2, .int .i64 n3, .int .i64 n4, .int .i64 n5] 27)) = W0 at *
  generalize w.heap.size = QK at *
  have C1 := hid (ints_lit p [n1, n2] W0 v l _ _ H0.out #[.int .i64 n1, .int .i64 n2] rfl 2 rfl (by decide) (by intro x hx; simp only [List.mem_cons, List.not_mem_nil, or_false] at hx; rcases hx with rfl | rfl <;> assumption) (by omega))
  go_wp2_with fail
  with_reducible refine C1.out.mono ?_
  rintro e W1 ⟨⟨r1, rfl⟩, v1, h1, k1⟩
  replace y0 := k1.cell y0 hQp NB0
  replace y1 := k1.cell y1 hQp NB0
  replace y2 := k1.cell y2 hQp NB0
  replace y3 := k1.cell y3 hQp NB0
  replace y4 := k1.cell y4 hQp NB0
  have hQl1 := Nat.lt_of_lt_of_le hQl k1.size
  have NB1 : v1.ownBlock ≠ some QK := fun e => by rcases k1.row _ e with e | e; exact NB0 e; have := hQl; omega
  have H1 := hid h1
  have K1 := hid (K0.out.trans k1)
  clear C1 h1 k1 H0 K0
  have C2 := hid (ints64_lit p [n3] W1 v1 (l ++ bytesZ [n1, n2]) _ _ H1.out #[.int .i64 n3] rfl 1 rfl (by decide) (by intro x hx; simp only [List.mem_cons, List.not_mem_nil, or_false] at hx; rcases hx with rfl <;> assumption) (by have b0 := bytesZ_len [n1, n2]; simp only [List.length_append, List.length_cons, List.length_nil] at *; omega))
  go_wp2_with fail
  with_reducible refine C2.out.mono ?_
  rintro e W2 ⟨⟨r2, rfl⟩, v2, h2, k2⟩
  replace y0 := k2.cell y0 hQp NB1
  replace y1 := k2.cell y1 hQp NB1
  replace y2 := k2.cell y2 hQp NB1
  replace y3 := k2.cell y3 hQp NB1
  replace y4 := k2.cell y4 hQp NB1
  have hQl2 := Nat.lt_of_lt_of_le hQl1 k2.size
  have NB2 : v2.ownBlock ≠ some QK := fun e => by rcases k2.row _ e with e | e; exact NB1 e; have := hQl1; omega
  have H2 := hid h2
  have K2 := hid (K1.out.trans k2)
  clear C2 h2 k2 H1 K1
  have C3 := hid (ints_lit p [n4, n5] W2 v2 ((l ++ bytesZ [n1, n2]) ++ bytesZ [n3]) _ _ H2.out #[.int .i64 n4, .int .i64 n5] rfl 2 rfl (by decide) (by intro x hx; simp only [List.mem_cons, List.not_mem_nil, or_false] at hx; rcases hx with rfl | rfl <;> assumption) (by have b0 := bytesZ_len [n1, n2]; have b1 := bytesZ_len [n3]; simp only [List.length_append, List.length_cons, List.length_nil] at *; omega))
  go_wp2_with fail
  with_reducible refine C3.out.mono ?_
  rintro e W3 ⟨⟨r3, rfl⟩, v3, h3, k3⟩
  replace y0 := k3.cell y0 hQp NB2
  replace y1 := k3.cell y1 hQp NB2
  replace y2 := k3.cell y2 hQp NB2
  replace y3 := k3.cell y3 hQp NB2
  replace y4 := k3.cell y4 hQp NB2
  have hQl3 := Nat.lt_of_lt_of_le hQl2 k3.size
  have NB3 : v3.ownBlock ≠ some QK := fun e => by rcases k3.row _ e with e | e; exact NB2 e; have := hQl2; omega
  have H3 := hid h3
  have K3 := hid (K2.out.trans k3)
  clear C3 h3 k3 H2 K2
  go_wp2_with fail
  go_end0
  exact ⟨⟨_, rfl⟩, _, by simpa [bytesZ, List.append_assoc] using H3.out, K3.out⟩

end Go.Proofs.Ythkbddnkcljjpaa

namespace Go.Proofs.Ythkbddnkcljjpaa
open Go.RowKit Go.Deep
set_option linter.unusedVariables false
set_option linter.unusedSimpArgs false

theorem wr_below {W : World} {p i : Nat} {v u : Value} : WK p v W (W.setCell ⟨p, i, none⟩ u) v := by
  have hb := (Below.refl 0 W).setCell (p := ⟨p, i, none⟩) (Nat.zero_le _) u
  exact ⟨hb.os, hb.tape, hb.output, hb.size, fun b _ h _ => heap_setCell_other _ _ _ _ h, fun g e => .inl e⟩
theorem wr_long {W : World} {p : Nat} {v : Value} {l : List Int} {lg bz : Bool} (h : Wr W p v l lg bz) : Wr (W.setCell ⟨p, 1, none⟩ (.bool true)) p v l true bz := by
  obtain ⟨⟨⟨c1, c2, c3⟩, f1, f2, f3⟩, ho⟩ := h
  refine ⟨⟨⟨?_, ?_, ?_⟩, ?_, ?_, ?_⟩, ownsRow_setCell_below ho.1 (a := ⟨p, 1, none⟩) (Nat.lt_succ_self p) _, ho.2⟩
  · rw [World.cell?_setCell_other _ _ _ _ (by simp)]; exact c1
  · exact World.cell?_setCell_same' _ _ _ (by rw [c2]; rfl)
  · rw [World.cell?_setCell_other _ _ _ _ (by simp)]; exact c3
  · rw [World.frozen?_setCell]; exact f1
  · rw [World.frozen?_setCell]; exact f2
  · rw [World.frozen?_setCell]; exact f3
theorem wr_neg {W : World} {p : Nat} {v : Value} {l : List Int} {lg bz : Bool} (h : Wr W p v l lg bz) : Wr (W.setCell ⟨p, 2, none⟩ (.bool true)) p v l lg true := by
  obtain ⟨⟨⟨c1, c2, c3⟩, f1, f2, f3⟩, ho⟩ := h
  refine ⟨⟨⟨?_, ?_, ?_⟩, ?_, ?_, ?_⟩, ownsRow_setCell_below ho.1 (a := ⟨p, 2, none⟩) (Nat.lt_succ_self p) _, ho.2⟩
  · rw [World.cell?_setCell_other _ _ _ _ (by simp)]; exact c1
  · rw [World.cell?_setCell_other _ _ _ _ (by simp)]; exact c2
  · exact World.cell?_setCell_same' _ _ _ (by rw [c3]; rfl)
  · rw [World.frozen?_setCell]; exact f1
  · rw [World.frozen?_setCell]; exact f2
  · rw [World.frozen?_setCell]; exact f3
/-- A kind's bytes. -/
def kindZ (x : Int) : List Int := if x < 0 then [] else numB x
theorem kindZ_len (x : Int) : (kindZ x).length ≤ 9 := by
  unfold kindZ
  split
  · simp
  · rw [numB_len]; have := shelf_le x; omega
set_option maxRecDepth 100000 in
set_option maxHeartbeats 4000000 in
theorem ckind_any (p : Nat) (x : Int) (w : World) (v : Value) (l : List Int) (lg bz : Bool) (h : Wr w p v l lg bz) (hx : I64 x) (hm : l.length + 9 ≤ 140737488355328) :
    Calls Try.prog 103 #[.pointer (some ⟨p, 0, none⟩), .int .i64 x] w fun e w' => (∃ r, e = .returned r) ∧ ∃ v', Wr w' p v' (l ++ kindZ x) lg (bz || decide (x < 0)) ∧ WK p v w w' v' := by
  have HW := hid h
  unfold I64 at hx
  by_cases hn : x < 0
  · have t : decide (x < 0) = true := by simpa using hn
    have E : Hid (kindZ x = []) := by unfold Hid kindZ; rw [if_pos hn]
    have c2 := h.1.1.2.2
    have f2 := h.1.2.2.2
    clear h hn
    go_enter Try.func103, Try.ntmps103
    go_wp2_with fail
    first | go_end0 | (refine bodyPost_ret (results_none rfl _ _ _) rfl ?_)
    refine ⟨⟨_, rfl⟩, v, ?_, wr_below⟩
    rw [E.out, List.append_nil, t, Bool.or_true]
    exact wr_neg HW.out
  · have t : decide (x < 0) = false := by simpa using hn
    have E : Hid (kindZ x = numB x) := by unfold Hid kindZ; rw [if_neg hn]
    have NU := hid (cnumber_any p x w v l lg bz h (by omega) (by omega) hm)
    have kx : IntKind.u64.wrap x = x := by rw [IntKind.wrap_u64]; omega
    have h0 : 0 ≤ x := by omega
    clear h hn
    go_enter Try.func103, Try.ntmps103
    go_wp2_with fail
    with_reducible refine NU.out.mono ?_
    rintro e w1 ⟨⟨r, rfl⟩, v1, h1, k1⟩
    have H1 := hid h1
    have K1 := hid k1
    clear NU h1 k1
    go_wp2_with fail
    first | go_end0 | (refine bodyPost_ret (results_none rfl _ _ _) rfl ?_)
    refine ⟨⟨_, rfl⟩, v1, ?_, K1.out⟩
    rw [E.out, t, Bool.or_false]
    exact H1.out
/-- Numbers that lie ahead of the writer. -/
def HoldsP (p : Nat) (W : World) (a : Option Addr) (n c : Nat) (l : List Int) : Prop := HoldsN W a n c l ∧ ∀ b o, a = some ⟨b, o, none⟩ → 0 < n → b < p
theorem HoldsP.wk {p : Nat} {A B : World} {v v' : Value} {a : Option Addr} {n c : Nat} {l : List Int} (h : HoldsP p A a n c l) (k : WK p v A B v') (hv : ∀ g, v.ownBlock = some g → p < g) : HoldsP p B a n c l := by
  obtain ⟨⟨h1, h2, h3, h4, h5⟩, h6⟩ := h
  refine ⟨⟨h1, h2, h3, h4, fun hp => ?_⟩, h6⟩
  obtain ⟨b, o, e, hlt, hc⟩ := h5 hp
  have hb := h6 b o e hp
  exact ⟨b, o, e, Nat.lt_of_lt_of_le hlt k.size, fun j x hx i u hu => k.cell (hc j x hx i u hu) (by show b ≠ p; omega) (fun e2 => by have := hv b e2; omega)⟩
/-- A list's bytes. -/
def listZ (l : List Int) : List Int := if 1024 < l.length then [] else numB (l.length : Int) ++ bytesZ l
theorem listZ_len (l : List Int) : (listZ l).length ≤ 9 + 9 * 1024 := by
  unfold listZ
  split
  · simp
  · have h1 := bytesZ_len l
    have h2 := shelf_le (l.length : Int)
    rw [List.length_append, numB_len]; omega
set_option maxRecDepth 100000 in
set_option maxHeartbeats 4000000 in
theorem clist_any (p : Nat) (ta : Option Addr) (tn tc : Nat) (tk : List Int) (w : World) (v0 : Value) (l0 : List Int) (lg bz : Bool) (h : Wr w p v0 l0 lg bz) (ht : HoldsP p w ta tn tc tk) (hx : ∀ x ∈ tk, I64 x) (hm : l0.length + 9225 ≤ 140737488355328) :
    Calls Try.prog 71 #[.pointer (some ⟨p, 0, none⟩), .slice ta tn tc, .func (.func 72) #[.pointer (some ⟨p, 0, none⟩)] #[]] w fun e w' => (∃ r, e = .returned r) ∧ ∃ v', Wr w' p v' (l0 ++ listZ tk) (lg || decide (1024 < tn)) bz ∧ WK p v0 w w' v' := by
  have HW0 := hid h
  have HT := hid ht
  have HN := hid ht.1.1
  have HX := hid hx
  have tcap := ht.1.2.1
  have tcm := ht.1.2.2.1
  by_cases hn : 1024 < tn
  · have t : decide ((1024 : Int) < (tn : Int)) = true := by simp; omega
    have E : Hid (listZ tk = []) := by unfold Hid listZ; rw [if_pos (by rw [HN.out]; exact hn)]
    have T : Hid (decide (1024 < tn) = true) := by unfold Hid; simpa using hn
    have c1 := h.1.1.2.1
    have f1 := h.1.2.2.1
    clear h ht hx hn
    go_enter Try.func71, Try.ntmps71
    go_wp2_with fail
    first | go_end0 | (refine bodyPost_ret (results_none rfl _ _ _) rfl ?_)
    refine ⟨⟨_, rfl⟩, v0, ?_, wr_below⟩
    rw [E.out, List.append_nil, T.out, Bool.or_true]
    exact wr_long HW0.out
  · have t : decide ((1024 : Int) < (tn : Int)) = false := by simp; omega
    have E : Hid (listZ tk = numB (tn : Int) ++ bytesZ tk) := by unfold Hid listZ; rw [if_neg (by rw [HN.out]; exact hn), HN.out]
    have T : Hid (decide (1024 < tn) = false) := by unfold Hid; simpa using hn
    have htn : tn ≤ 1024 := by omega
    have NU := hid (cnumber_any p (tn : Int) w v0 l0 lg bz h (by omega) (by omega) (by omega))
    have hl9 : (numB (tn : Int)).length ≤ 9 := by rw [numB_len]; have := shelf_le (tn : Int); omega
    clear h ht hx hn
    go_enter Try.func71, Try.ntmps71
    go_wp2_with fail
    with_reducible refine NU.out.mono ?_
    rintro e w1 ⟨⟨r, rfl⟩, v1, h1, k1⟩
    have H1 := hid h1
    have K1 := hid k1
    have T1 := hid (HT.out.wk k1 (fun g e => (HW0.out.row g e).1))
    clear NU h1 k1
    generalize numB (tn : Int) = NB at *
    go_wp2_with fail
    go_loopw [21] (fun i wr => ∃ k : Nat, k ≤ tn ∧ i = .int .i64 (k : Int) ∧ ∃ v', Hid (Wr wr p v' (l0 ++ NB ++ bytesZ (tk.take k)) lg bz) ∧ Hid (WK p v1 w1 wr v')) (fun i _ => tn - (intOf i).toNat)
    case atStart => exact ⟨0, by omega, rfl, v1, by unfold Hid; simpa [bytesZ] using H1.out, WK.refl _ _ _⟩
    case round =>
      obtain ⟨k, hk, rfl, v, HW, K0⟩ := hrel
      by_cases hlt : k < tn
      · have hlt' : k < tk.length := by rw [HN.out]; exact hlt
        have T2 := T1.out.wk K0.out (fun g e => (H1.out.row g e).1)
        obtain ⟨tb, to_, rfl, RI⟩ := T2.1.rowN (by omega)
        have c0 := RI k hlt
        have SN := hid (bytesZ_snoc hlt')
        have hbl := bytesZ_len (tk.take k)
        have hxk : I64 (tk[k]?.getD 0) := HX.out _ (by rw [List.getElem?_eq_getElem hlt']; exact List.getElem_mem hlt')
        have ka : (0 : Int) ≤ (k : Int) := by omega
        have kb : (k : Int) < (tn : Int) := by omega
        rw [List.length_take] at hbl
        clear RI T2
        generalize tk[k]?.getD 0 = x at *
        have CI := hid (cint_any p x wr v _ lg bz HW.out hxk (by simp only [List.length_append]; omega))
        clear hxk hbl
        go_wp2_with fail
        with_reducible refine CI.out.mono ?_
        rintro e w2 ⟨⟨r2, rfl⟩, v2, h2, k2⟩
        have H2 := hid h2
        have K2 := hid (K0.out.trans k2)
        clear CI h2 k2 HW K0 c0
        go_wp2_with fail
        refine ⟨⟨k + 1, by omega, by go_num, v2, by unfold Hid; rw [SN.out, ← List.append_assoc]; exact H2.out, K2⟩, ?_⟩
        simp [intOf]; omega
      · obtain rfl : tn = k := by omega
        have e : tk.take tn = tk := List.take_of_length_le (by rw [HN.out]; exact Nat.le_refl _)
        rw [e] at HW
        have KF := hid (K1.out.trans K0.out)
        go_wp2_with fail
        first | go_end0 | (refine bodyPost_ret (results_none rfl _ _ _) rfl ?_)
        refine ⟨⟨_, rfl⟩, v, ?_, KF.out⟩
        rw [E.out, T.out, Bool.or_false, ← List.append_assoc]
        exact HW.out
end Go.Proofs.Ythkbddnkcljjpaa

namespace Go.Proofs.Ythkbddnkcljjpaa
open Go.RowKit Go.Deep
set_option linter.unusedVariables false
set_option linter.unusedSimpArgs false

/-- What lies in a box of cells. -/
def Box (W : World) (Q : Nat) (cs : Array Value) : Prop := ∀ i x, cs[i]? = some x → W.cell? ⟨Q, i, none⟩ = some x
theorem Box.alloc (W : World) (cs : Array Value) (t : Nat) : Box (W.alloc (.cells cs t)) W.heap.size cs := by
  intro i x h
  simp [go_sem, h]
theorem Box.wk {p : Nat} {v v' : Value} {A B : World} {Q : Nat} {cs : Array Value} (h : Box A Q cs) (k : WK p v A B v') (h1 : Q ≠ p) (h2 : v.ownBlock ≠ some Q) : Box B Q cs :=
  fun i x e => k.cell (h i x e) h1 h2
/-- A task's bytes. -/
def taskZ (t1 t2 c m wk : Int) (tk : List Int) (st : Int) : List Int := bytesZ [t1, t2, c, m, wk] ++ (listZ tk ++ bytesZ [st])
theorem taskZ_len (t1 t2 c m wk : Int) (tk : List Int) (st : Int) : (taskZ t1 t2 c m wk tk st).length ≤ 9300 := by
  have h1 := bytesZ_len [t1, t2, c, m, wk]
  have h2 := bytesZ_len [st]
  have h3 := listZ_len tk
  unfold taskZ
  simp only [List.length_append, List.length_cons, List.length_nil] at *
  omega
/-- A command's bytes. -/
def cmdZ (kd ci ic bt si : Int) (qs ns ts : List Int) : List Int := kindZ kd ++ (bytesZ [ci, ic, bt, si] ++ (qs ++ (ns ++ ts)))
set_option maxRecDepth 100000 in
set_option maxHeartbeats 8000000 in
theorem ctask_any (p : Nat) (t1 t2 c m wk : Int) (ta : Option Addr) (tn tc : Nat) (tk : List Int) (st : Int) (w : World) (v : Value) (l : List Int) (lg bz : Bool) (h : Wr w p v l lg bz) (it1 : I64 t1) (it2 : I64 t2) (ic : I64 c) (im : I64 m) (iwk : I64 wk) (ist : I64 st) (ht : HoldsP p w ta tn tc tk) (hx : ∀ x ∈ tk, I64 x) (hm : l.length + 9400 ≤ 140737488355328) :
    Calls Try.prog 81 #[.pointer (some ⟨p, 0, none⟩), .agg #[.int .i64 t1, .int .i64 t2, .int .i64 c, .int .i64 m, .int .i64 wk, .slice ta tn tc, .int .i64 st]] w fun e w' => (∃ r, e = .returned r) ∧ ∃ v', Wr w' p v' (l ++ taskZ t1 t2 c m wk tk st) (lg || decide (1024 < tn)) bz ∧ WK p v w w' v' := by
  have HW := hid h
  have HP := h.lt
  have HRO := h.row
  have HX := hid hx
  go_enter Try.func81, Try.ntmps81
  go_upto_region 1 with fail
  have K0 : Hid (WK p v w (w.alloc (.cells #[.int .i64 t1, .int .i64 t2, .int .i64 c, .int .i64 m, .int .i64 wk, .slice ta tn tc, .int .i64 st] 30)) v) := WK.of_below ((Below.refl _ w).alloc (Nat.le_refl _) _)
  have H0 := hid (HW.out.below ((Below.refl w.heap.size w).alloc (Nat.le_refl _) (.cells #[.int .i64 t1, .int .i64 t2, .int .i64 c, .int .i64 m, .int .i64 wk, .slice ta tn tc, .int .i64 st] 30)))
  have T := hid (ht.wk K0.out (fun g e => (HRO g e).1))
  have BX := hid (Box.alloc w #[.int .i64 t1, .int .i64 t2, .int .i64 c, .int .i64 m, .int .i64 wk, .slice ta tn tc, .int .i64 st] (30))
  have NB0 : v.ownBlock ≠ some w.heap.size := fun e => by have := HRO _ e; omega
  have hQp : w.heap.size ≠ p := by omega
  have hQl : w.heap.size < (w.alloc (.cells #[.int .i64 t1, .int .i64 t2, .int .i64 c, .int .i64 m, .int .i64 wk, .slice ta tn tc, .int .i64 st] 30)).heap.size := by simp
  clear HW HP HRO h ht hx
  generalize (w.alloc (.cells #[.int .i64 t1, .int .i64 t2, .int .i64 c, .int .i64 m, .int .i64 wk, .slice ta tn tc, .int .i64 st] 30)) = W0 at *
  generalize w.heap.size = QK at *
  have C1 := hid (ints_lit p [t1, t2] W0 v l _ _ H0.out #[.int .i64 t1, .int .i64 t2] rfl 2 rfl (by decide) (by intro x hx; simp only [List.mem_cons, List.not_mem_nil, or_false] at hx; rcases hx with rfl | rfl <;> assumption) (by omega))
  have y0 := BX.out 0 (.int .i64 t1) rfl
  have y1 := BX.out 1 (.int .i64 t2) rfl
  go_wp2_with fail
  with_reducible refine C1.out.mono ?_
  clear y0 y1
  rintro e W1 ⟨⟨r1, rfl⟩, v1, h1, k1⟩
  replace BX := hid (BX.out.wk k1 hQp NB0)
  have hQl1 := Nat.lt_of_lt_of_le hQl k1.size
  have NB1 : v1.ownBlock ≠ some QK := fun e => by rcases k1.row _ e with e | e; exact NB0 e; have := hQl; omega
  replace T := hid (T.out.wk k1 (fun g e => (H0.out.row g e).1))
  have H1 := hid h1
  have K1 := hid (K0.out.trans k1)
  clear C1 h1 k1 H0 K0
  have C2 := hid (cvec_any p c m W1 v1 (l ++ bytesZ [t1, t2]) _ _ H1.out ic im (by have b0 := bytesZ_len [t1, t2]; simp only [List.length_append, List.length_cons, List.length_nil] at *; omega))
  have y2 := BX.out 2 (.int .i64 c) rfl
  have y3 := BX.out 3 (.int .i64 m) rfl
  go_wp2_with fail
  with_reducible refine C2.out.mono ?_
  clear y2 y3
  rintro e W2 ⟨⟨r2, rfl⟩, v2, h2, k2⟩
  replace BX := hid (BX.out.wk k2 hQp NB1)
  have hQl2 := Nat.lt_of_lt_of_le hQl1 k2.size
  have NB2 : v2.ownBlock ≠ some QK := fun e => by rcases k2.row _ e with e | e; exact NB1 e; have := hQl1; omega
  replace T := hid (T.out.wk k2 (fun g e => (H1.out.row g e).1))
  have H2 := hid h2
  have K2 := hid (K1.out.trans k2)
  clear C2 h2 k2 H1 K1
  have C3 := hid (ints_lit p [wk] W2 v2 ((l ++ bytesZ [t1, t2]) ++ bytesZ [c, m]) _ _ H2.out #[.int .i64 wk] rfl 1 rfl (by decide) (by intro x hx; simp only [List.mem_cons, List.not_mem_nil, or_false] at hx; rcases hx with rfl <;> assumption) (by have b0 := bytesZ_len [t1, t2]; have b1 := bytesZ_len [c, m]; simp only [List.length_append, List.length_cons, List.length_nil] at *; omega))
  have y4 := BX.out 4 (.int .i64 wk) rfl
  go_wp2_with fail
  with_reducible refine C3.out.mono ?_
  clear y4
  rintro e W3 ⟨⟨r3, rfl⟩, v3, h3, k3⟩
  replace BX := hid (BX.out.wk k3 hQp NB2)
  have hQl3 := Nat.lt_of_lt_of_le hQl2 k3.size
  have NB3 : v3.ownBlock ≠ some QK := fun e => by rcases k3.row _ e with e | e; exact NB2 e; have := hQl2; omega
  replace T := hid (T.out.wk k3 (fun g e => (H2.out.row g e).1))
  have H3 := hid h3
  have K3 := hid (K2.out.trans k3)
  clear C3 h3 k3 H2 K2
  have C4 := hid (clist_any p ta tn tc tk W3 v3 (((l ++ bytesZ [t1, t2]) ++ bytesZ [c, m]) ++ bytesZ [wk]) _ _ H3.out T.out HX.out (by have b0 := bytesZ_len [t1, t2]; have b1 := bytesZ_len [c, m]; have b2 := bytesZ_len [wk]; simp only [List.length_append, List.length_cons, List.length_nil] at *; omega))
  have y5 := BX.out 5 (.slice ta tn tc) rfl
  go_wp2_with fail
  with_reducible refine C4.out.mono ?_
  clear y5
  rintro e W4 ⟨⟨r4, rfl⟩, v4, h4, k4⟩
  replace BX := hid (BX.out.wk k4 hQp NB3)
  have hQl4 := Nat.lt_of_lt_of_le hQl3 k4.size
  have NB4 : v4.ownBlock ≠ some QK := fun e => by rcases k4.row _ e with e | e; exact NB3 e; have := hQl3; omega
  replace T := hid (T.out.wk k4 (fun g e => (H3.out.row g e).1))
  have H4 := hid h4
  have K4 := hid (K3.out.trans k4)
  clear C4 h4 k4 H3 K3
  have C5 := hid (ints_lit p [st] W4 v4 ((((l ++ bytesZ [t1, t2]) ++ bytesZ [c, m]) ++ bytesZ [wk]) ++ listZ tk) _ _ H4.out #[.int .i64 st] rfl 1 rfl (by decide) (by intro x hx; simp only [List.mem_cons, List.not_mem_nil, or_false] at hx; rcases hx with rfl <;> assumption) (by have b0 := bytesZ_len [t1, t2]; have b1 := bytesZ_len [c, m]; have b2 := bytesZ_len [wk]; have bt := listZ_len tk; simp only [List.length_append, List.length_cons, List.length_nil] at *; omega))
  have y6 := BX.out 6 (.int .i64 st) rfl
  go_wp2_with fail
  with_reducible refine C5.out.mono ?_
  clear y6
  rintro e W5 ⟨⟨r5, rfl⟩, v5, h5, k5⟩
  replace BX := hid (BX.out.wk k5 hQp NB4)
  have hQl5 := Nat.lt_of_lt_of_le hQl4 k5.size
  have NB5 : v5.ownBlock ≠ some QK := fun e => by rcases k5.row _ e with e | e; exact NB4 e; have := hQl4; omega
  replace T := hid (T.out.wk k5 (fun g e => (H4.out.row g e).1))
  have H5 := hid h5
  have K5 := hid (K4.out.trans k5)
  clear C5 h5 k5 H4 K4
  go_wp2_with fail
  first | go_end0 | (refine bodyPost_ret (results_none rfl _ _ _) rfl ?_)
  exact ⟨⟨_, rfl⟩, _, by simpa [taskZ, bytesZ, List.append_assoc] using H5.out, K5.out⟩

set_option maxRecDepth 100000 in
set_option maxHeartbeats 8000000 in
theorem ccommand_any (p : Nat) (kd ci ir bt si q1 q2 q3 q4 q5 q6 q7 n1 n2 n3 n4 n5 : Int) (t1 t2 c m wk : Int) (ta : Option Addr) (tn tc : Nat) (tk : List Int) (st : Int) (w : World) (v : Value) (l : List Int) (lg bz : Bool) (h : Wr w p v l lg bz) (ikd : I64 kd) (ici : I64 ci) (iir : I64 ir) (ibt : I64 bt) (isi : I64 si) (iq1 : I64 q1) (iq2 : I64 q2) (iq3 : I64 q3) (iq4 : I64 q4) (iq5 : I64 q5) (iq6 : I64 q6) (iq7 : I64 q7) (in1 : I64 n1) (in2 : I64 n2) (in3 : I64 n3) (in4 : I64 n4) (in5 : I64 n5) (it1 : I64 t1) (it2 : I64 t2) (ic : I64 c) (im : I64 m) (iwk : I64 wk) (ist : I64 st) (ht : HoldsP p w ta tn tc tk) (hx : ∀ x ∈ tk, I64 x) (hm : l.length + 9700 ≤ 140737488355328) :
    Calls Try.prog 68 #[.pointer (some ⟨p, 0, none⟩), .agg #[.int .i64 kd, .int .i64 ci, .int .i64 ir, .int .i64 bt, .int .i64 si, .int .i64 q1, .int .i64 q2, .int .i64 q3, .int .i64 q4, .int .i64 q5, .int .i64 q6, .int .i64 q7, .int .i64 n1, .int .i64 n2, .int .i64 n3, .int .i64 n4, .int .i64 n5, .int .i64 t1, .int .i64 t2, .int .i64 c, .int .i64 m, .int .i64 wk, .slice ta tn tc, .int .i64 st]] w fun e w' => (∃ r, e = .returned r) ∧ ∃ v', Wr w' p v' (l ++ cmdZ kd ci ir bt si (bytesZ [q1, q2, q3, q4, q5, q6, q7]) (bytesZ [n1, n2, n3, n4, n5]) (taskZ t1 t2 c m wk tk st)) (lg || decide (1024 < tn)) (bz || decide (kd < 0)) ∧ WK p v w w' v' := by
  have HW := hid h
  have HP := h.lt
  have HRO := h.row
  have HX := hid hx
  go_enter Try.func68, Try.ntmps68
  go_upto_region 1 with fail
  have K0 : Hid (WK p v w (w.alloc (.cells #[.int .i64 kd, .int .i64 ci, .int .i64 ir, .int .i64 bt, .int .i64 si, .int .i64 q1, .int .i64 q2, .int .i64 q3, .int .i64 q4, .int .i64 q5, .int .i64 q6, .int .i64 q7, .int .i64 n1, .int .i64 n2, .int .i64 n3, .int .i64 n4, .int .i64 n5, .int .i64 t1, .int .i64 t2, .int .i64 c, .int .i64 m, .int .i64 wk, .slice ta tn tc, .int .i64 st] 32)) v) := WK.of_below ((Below.refl _ w).alloc (Nat.le_refl _) _)
  have H0 := hid (HW.out.below ((Below.refl w.heap.size w).alloc (Nat.le_refl _) (.cells #[.int .i64 kd, .int .i64 ci, .int .i64 ir, .int .i64 bt, .int .i64 si, .int .i64 q1, .int .i64 q2, .int .i64 q3, .int .i64 q4, .int .i64 q5, .int .i64 q6, .int .i64 q7, .int .i64 n1, .int .i64 n2, .int .i64 n3, .int .i64 n4, .int .i64 n5, .int .i64 t1, .int .i64 t2, .int .i64 c, .int .i64 m, .int .i64 wk, .slice ta tn tc, .int .i64 st] 32)))
  have T := hid (ht.wk K0.out (fun g e => (HRO g e).1))
  have BX := hid (Box.alloc w #[.int .i64 kd, .int .i64 ci, .int .i64 ir, .int .i64 bt, .int .i64 si, .int .i64 q1, .int .i64 q2, .int .i64 q3, .int .i64 q4, .int .i64 q5, .int .i64 q6, .int .i64 q7, .int .i64 n1, .int .i64 n2, .int .i64 n3, .int .i64 n4, .int .i64 n5, .int .i64 t1, .int .i64 t2, .int .i64 c, .int .i64 m, .int .i64 wk, .slice ta tn tc, .int .i64 st] (32))
  have NB0 : v.ownBlock ≠ some w.heap.size := fun e => by have := HRO _ e; omega
  have hQp : w.heap.size ≠ p := by omega
  have hQl : w.heap.size < (w.alloc (.cells #[.int .i64 kd, .int .i64 ci, .int .i64 ir, .int .i64 bt, .int .i64 si, .int .i64 q1, .int .i64 q2, .int .i64 q3, .int .i64 q4, .int .i64 q5, .int .i64 q6, .int .i64 q7, .int .i64 n1, .int .i64 n2, .int .i64 n3, .int .i64 n4, .int .i64 n5, .int .i64 t1, .int .i64 t2, .int .i64 c, .int .i64 m, .int .i64 wk, .slice ta tn tc, .int .i64 st] 32)).heap.size := by simp
  clear HW HP HRO h ht hx
  generalize (w.alloc (.cells #[.int .i64 kd, .int .i64 ci, .int .i64 ir, .int .i64 bt, .int .i64 si, .int .i64 q1, .int .i64 q2, .int .i64 q3, .int .i64 q4, .int .i64 q5, .int .i64 q6, .int .i64 q7, .int .i64 n1, .int .i64 n2, .int .i64 n3, .int .i64 n4, .int .i64 n5, .int .i64 t1, .int .i64 t2, .int .i64 c, .int .i64 m, .int .i64 wk, .slice ta tn tc, .int .i64 st] 32)) = W0 at *
  generalize w.heap.size = QK at *
  have C1 := hid (ckind_any p kd W0 v l _ _ H0.out ikd (by omega))
  have y0 := BX.out 0 (.int .i64 kd) rfl
  go_wp2_with fail
  with_reducible refine C1.out.mono ?_
  clear y0
  rintro e W1 ⟨⟨r1, rfl⟩, v1, h1, k1⟩
  replace BX := hid (BX.out.wk k1 hQp NB0)
  have hQl1 := Nat.lt_of_lt_of_le hQl k1.size
  have NB1 : v1.ownBlock ≠ some QK := fun e => by rcases k1.row _ e with e | e; exact NB0 e; have := hQl; omega
  replace T := hid (T.out.wk k1 (fun g e => (H0.out.row g e).1))
  have H1 := hid h1
  have K1 := hid (K0.out.trans k1)
  clear C1 h1 k1 H0 K0
  have C2 := hid (ints_lit p [ci, ir, bt] W1 v1 (l ++ kindZ kd) _ _ H1.out #[.int .i64 ci, .int .i64 ir, .int .i64 bt] rfl 3 rfl (by decide) (by intro x hx; simp only [List.mem_cons, List.not_mem_nil, or_false] at hx; rcases hx with rfl | rfl | rfl <;> assumption) (by have bk := kindZ_len kd; simp only [List.length_append, List.length_cons, List.length_nil] at *; omega))
  have y1 := BX.out 1 (.int .i64 ci) rfl
  have y2 := BX.out 2 (.int .i64 ir) rfl
  have y3 := BX.out 3 (.int .i64 bt) rfl
  go_wp2_with fail
  with_reducible refine C2.out.mono ?_
  clear y1 y2 y3
  rintro e W2 ⟨⟨r2, rfl⟩, v2, h2, k2⟩
  replace BX := hid (BX.out.wk k2 hQp NB1)
  have hQl2 := Nat.lt_of_lt_of_le hQl1 k2.size
  have NB2 : v2.ownBlock ≠ some QK := fun e => by rcases k2.row _ e with e | e; exact NB1 e; have := hQl1; omega
  replace T := hid (T.out.wk k2 (fun g e => (H1.out.row g e).1))
  have H2 := hid h2
  have K2 := hid (K1.out.trans k2)
  clear C2 h2 k2 H1 K1
  have C3 := hid (ints64_lit p [si] W2 v2 ((l ++ kindZ kd) ++ bytesZ [ci, ir, bt]) _ _ H2.out #[.int .i64 si] rfl 1 rfl (by decide) (by intro x hx; simp only [List.mem_cons, List.not_mem_nil, or_false] at hx; rcases hx with rfl <;> assumption) (by have b0 := bytesZ_len [ci, ir, bt]; have bk := kindZ_len kd; simp only [List.length_append, List.length_cons, List.length_nil] at *; omega))
  have y4 := BX.out 4 (.int .i64 si) rfl
  go_wp2_with fail
  with_reducible refine C3.out.mono ?_
  clear y4
  rintro e W3 ⟨⟨r3, rfl⟩, v3, h3, k3⟩
  replace BX := hid (BX.out.wk k3 hQp NB2)
  have hQl3 := Nat.lt_of_lt_of_le hQl2 k3.size
  have NB3 : v3.ownBlock ≠ some QK := fun e => by rcases k3.row _ e with e | e; exact NB2 e; have := hQl2; omega
  replace T := hid (T.out.wk k3 (fun g e => (H2.out.row g e).1))
  have H3 := hid h3
  have K3 := hid (K2.out.trans k3)
  clear C3 h3 k3 H2 K2
  have C4 := hid (cqueue_any p q1 q2 q3 q4 q5 q6 q7 W3 v3 (((l ++ kindZ kd) ++ bytesZ [ci, ir, bt]) ++ bytesZ [si]) _ _ H3.out iq1 iq2 iq3 iq4 iq5 iq6 iq7 (by have b0 := bytesZ_len [ci, ir, bt]; have b1 := bytesZ_len [si]; have bk := kindZ_len kd; simp only [List.length_append, List.length_cons, List.length_nil] at *; omega))
  have y5 := BX.out 5 (.int .i64 q1) rfl
  have y6 := BX.out 6 (.int .i64 q2) rfl
  have y7 := BX.out 7 (.int .i64 q3) rfl
  have y8 := BX.out 8 (.int .i64 q4) rfl
  have y9 := BX.out 9 (.int .i64 q5) rfl
  have y10 := BX.out 10 (.int .i64 q6) rfl
  have y11 := BX.out 11 (.int .i64 q7) rfl
  go_wp2_with fail
  with_reducible refine C4.out.mono ?_
  clear y5 y6 y7 y8 y9 y10 y11
  rintro e W4 ⟨⟨r4, rfl⟩, v4, h4, k4⟩
  replace BX := hid (BX.out.wk k4 hQp NB3)
  have hQl4 := Nat.lt_of_lt_of_le hQl3 k4.size
  have NB4 : v4.ownBlock ≠ some QK := fun e => by rcases k4.row _ e with e | e; exact NB3 e; have := hQl3; omega
  replace T := hid (T.out.wk k4 (fun g e => (H3.out.row g e).1))
  have H4 := hid h4
  have K4 := hid (K3.out.trans k4)
  clear C4 h4 k4 H3 K3
  have C5 := hid (cnode_any p n1 n2 n3 n4 n5 W4 v4 ((((l ++ kindZ kd) ++ bytesZ [ci, ir, bt]) ++ bytesZ [si]) ++ bytesZ [q1, q2, q3, q4, q5, q6, q7]) _ _ H4.out in1 in2 in3 in4 in5 (by have b0 := bytesZ_len [ci, ir, bt]; have b1 := bytesZ_len [si]; have b2 := bytesZ_len [q1, q2, q3, q4, q5, q6, q7]; have bk := kindZ_len kd; simp only [List.length_append, List.length_cons, List.length_nil] at *; omega))
  have y12 := BX.out 12 (.int .i64 n1) rfl
  have y13 := BX.out 13 (.int .i64 n2) rfl
  have y14 := BX.out 14 (.int .i64 n3) rfl
  have y15 := BX.out 15 (.int .i64 n4) rfl
  have y16 := BX.out 16 (.int .i64 n5) rfl
  go_wp2_with fail
  with_reducible refine C5.out.mono ?_
  clear y12 y13 y14 y15 y16
  rintro e W5 ⟨⟨r5, rfl⟩, v5, h5, k5⟩
  replace BX := hid (BX.out.wk k5 hQp NB4)
  have hQl5 := Nat.lt_of_lt_of_le hQl4 k5.size
  have NB5 : v5.ownBlock ≠ some QK := fun e => by rcases k5.row _ e with e | e; exact NB4 e; have := hQl4; omega
  replace T := hid (T.out.wk k5 (fun g e => (H4.out.row g e).1))
  have H5 := hid h5
  have K5 := hid (K4.out.trans k5)
  clear C5 h5 k5 H4 K4
  have C6 := hid (ctask_any p t1 t2 c m wk ta tn tc tk st W5 v5 (((((l ++ kindZ kd) ++ bytesZ [ci, ir, bt]) ++ bytesZ [si]) ++ bytesZ [q1, q2, q3, q4, q5, q6, q7]) ++ bytesZ [n1, n2, n3, n4, n5]) _ _ H5.out it1 it2 ic im iwk ist T.out HX.out (by have b0 := bytesZ_len [ci, ir, bt]; have b1 := bytesZ_len [si]; have b2 := bytesZ_len [q1, q2, q3, q4, q5, q6, q7]; have b3 := bytesZ_len [n1, n2, n3, n4, n5]; have bk := kindZ_len kd; simp only [List.length_append, List.length_cons, List.length_nil] at *; omega))
  have y17 := BX.out 17 (.int .i64 t1) rfl
  have y18 := BX.out 18 (.int .i64 t2) rfl
  have y19 := BX.out 19 (.int .i64 c) rfl
  have y20 := BX.out 20 (.int .i64 m) rfl
  have y21 := BX.out 21 (.int .i64 wk) rfl
  have y22 := BX.out 22 (.slice ta tn tc) rfl
  have y23 := BX.out 23 (.int .i64 st) rfl
  go_wp2_with fail
  with_reducible refine C6.out.mono ?_
  clear y17 y18 y19 y20 y21 y22 y23
  rintro e W6 ⟨⟨r6, rfl⟩, v6, h6, k6⟩
  replace BX := hid (BX.out.wk k6 hQp NB5)
  have hQl6 := Nat.lt_of_lt_of_le hQl5 k6.size
  have NB6 : v6.ownBlock ≠ some QK := fun e => by rcases k6.row _ e with e | e; exact NB5 e; have := hQl5; omega
  replace T := hid (T.out.wk k6 (fun g e => (H5.out.row g e).1))
  have H6 := hid h6
  have K6 := hid (K5.out.trans k6)
  clear C6 h6 k6 H5 K5
  go_wp2_with fail
  first | go_end0 | (refine bodyPost_ret (results_none rfl _ _ _) rfl ?_)
  exact ⟨⟨_, rfl⟩, _, by simpa [cmdZ, bytesZ, List.append_assoc] using H6.out, K6.out⟩

end Go.Proofs.Ythkbddnkcljjpaa

namespace Go.Proofs.Ythkbddnkcljjpaa
open Go.RowKit Go.Deep
set_option linter.unusedVariables false
set_option linter.unusedSimpArgs false

theorem Box.range {W : World} {Q : Nat} {cs : Array Value} (h : Box W Q cs) (o : Nat) (l : List Value) (e : cs.toList.drop o = l) : W.rangeAt Q o l :=
  fun j v hv => h (o + j) v (by subst e; simpa using hv)
set_option maxRecDepth 100000 in
theorem sizeCmd : (Try.prog.info? 32).map (·.size) = some 24 := by kernel_rfl
section
variable {ops : Array Oper} {rest : List Oper} {op : Oper} {a : Act} {w : World} {Q : Exit → Act → World → Prop}
theorem wpList_load_cmd (hw : Region.wanted op (yielded ops a.tmps) = true) (x : Operand) (ho : op.op = .load 32 x) (b o : Nat) (hx : a.eval x = .pointer (some ⟨b, o, none⟩)) (cs : Array Value) (hl : (Instr.loadAt 32 (.pointer (some ⟨b, o, none⟩))).run Try.prog w = .ok (.agg cs) w)
    (h : wpList Try.prog ops Q rest (a.put op.dst (.agg cs)) w) : wpList Try.prog ops Q (op :: rest) a w := by
  refine Go.BigFrame.wpList_want hw fun _ hK => ?_
  unfold Oper.wp execOp
  simp only [ho, hx, Sem.run_bind, Sem.run_pure, hl, Result.andThen_ok]
  exact hK _ _ h
end
/-- An entry's bytes. -/
def entZ (gp cl sq : Int) (cz : List Int) : List Int := bytesZ [gp, cl, sq] ++ cz
set_option maxRecDepth 100000 in
set_option maxHeartbeats 8000000 in
theorem centry_any (p : Nat) (gp cl sq : Int) (kd ci ir bt si q1 q2 q3 q4 q5 q6 q7 n1 n2 n3 n4 n5 : Int) (t1 t2 c m wk : Int) (ta : Option Addr) (tn tc : Nat) (tk : List Int) (st : Int) (w : World) (v : Value) (l : List Int) (lg bz : Bool) (h : Wr w p v l lg bz) (igp : I64 gp) (icl : I64 cl) (isq : I64 sq) (ikd : I64 kd) (ici : I64 ci) (iir : I64 ir) (ibt : I64 bt) (isi : I64 si) (iq1 : I64 q1) (iq2 : I64 q2) (iq3 : I64 q3) (iq4 : I64 q4) (iq5 : I64 q5) (iq6 : I64 q6) (iq7 : I64 q7) (in1 : I64 n1) (in2 : I64 n2) (in3 : I64 n3) (in4 : I64 n4) (in5 : I64 n5) (it1 : I64 t1) (it2 : I64 t2) (ic : I64 c) (im : I64 m) (iwk : I64 wk) (ist : I64 st) (ht : HoldsP p w ta tn tc tk) (hx : ∀ x ∈ tk, I64 x) (hm : l.length + 9800 ≤ 140737488355328) :
    Calls Try.prog 32 #[.pointer (some ⟨p, 0, none⟩), .agg #[.int .i64 gp, .int .i64 cl, .int .i64 sq, .int .i64 kd, .int .i64 ci, .int .i64 ir, .int .i64 bt, .int .i64 si, .int .i64 q1, .int .i64 q2, .int .i64 q3, .int .i64 q4, .int .i64 q5, .int .i64 q6, .int .i64 q7, .int .i64 n1, .int .i64 n2, .int .i64 n3, .int .i64 n4, .int .i64 n5, .int .i64 t1, .int .i64 t2, .int .i64 c, .int .i64 m, .int .i64 wk, .slice ta tn tc, .int .i64 st]] w fun e w' => (∃ r, e = .returned r) ∧ ∃ v', Wr w' p v' (l ++ entZ gp cl sq (cmdZ kd ci ir bt si (bytesZ [q1, q2, q3, q4, q5, q6, q7]) (bytesZ [n1, n2, n3, n4, n5]) (taskZ t1 t2 c m wk tk st))) (lg || decide (1024 < tn)) (bz || decide (kd < 0)) ∧ WK p v w w' v' := by
  have HW := hid h
  have HP := h.lt
  have HRO := h.row
  have HX := hid hx
  go_enter Try.func32, Try.ntmps32
  go_upto_region 1 with fail
  have K0 : Hid (WK p v w (w.alloc (.cells #[.int .i64 gp, .int .i64 cl, .int .i64 sq, .int .i64 kd, .int .i64 ci, .int .i64 ir, .int .i64 bt, .int .i64 si, .int .i64 q1, .int .i64 q2, .int .i64 q3, .int .i64 q4, .int .i64 q5, .int .i64 q6, .int .i64 q7, .int .i64 n1, .int .i64 n2, .int .i64 n3, .int .i64 n4, .int .i64 n5, .int .i64 t1, .int .i64 t2, .int .i64 c, .int .i64 m, .int .i64 wk, .slice ta tn tc, .int .i64 st] 34)) v) := WK.of_below ((Below.refl _ w).alloc (Nat.le_refl _) _)
  have H0 := hid (HW.out.below ((Below.refl w.heap.size w).alloc (Nat.le_refl _) (.cells #[.int .i64 gp, .int .i64 cl, .int .i64 sq, .int .i64 kd, .int .i64 ci, .int .i64 ir, .int .i64 bt, .int .i64 si, .int .i64 q1, .int .i64 q2, .int .i64 q3, .int .i64 q4, .int .i64 q5, .int .i64 q6, .int .i64 q7, .int .i64 n1, .int .i64 n2, .int .i64 n3, .int .i64 n4, .int .i64 n5, .int .i64 t1, .int .i64 t2, .int .i64 c, .int .i64 m, .int .i64 wk, .slice ta tn tc, .int .i64 st] 34)))
  have T := hid (ht.wk K0.out (fun g e => (HRO g e).1))
  have BX := hid (Box.alloc w #[.int .i64 gp, .int .i64 cl, .int .i64 sq, .int .i64 kd, .int .i64 ci, .int .i64 ir, .int .i64 bt, .int .i64 si, .int .i64 q1, .int .i64 q2, .int .i64 q3, .int .i64 q4, .int .i64 q5, .int .i64 q6, .int .i64 q7, .int .i64 n1, .int .i64 n2, .int .i64 n3, .int .i64 n4, .int .i64 n5, .int .i64 t1, .int .i64 t2, .int .i64 c, .int .i64 m, .int .i64 wk, .slice ta tn tc, .int .i64 st] (34))
  have NB0 : v.ownBlock ≠ some w.heap.size := fun e => by have := HRO _ e; omega
  have hQp : w.heap.size ≠ p := by omega
  have hQl : w.heap.size < (w.alloc (.cells #[.int .i64 gp, .int .i64 cl, .int .i64 sq, .int .i64 kd, .int .i64 ci, .int .i64 ir, .int .i64 bt, .int .i64 si, .int .i64 q1, .int .i64 q2, .int .i64 q3, .int .i64 q4, .int .i64 q5, .int .i64 q6, .int .i64 q7, .int .i64 n1, .int .i64 n2, .int .i64 n3, .int .i64 n4, .int .i64 n5, .int .i64 t1, .int .i64 t2, .int .i64 c, .int .i64 m, .int .i64 wk, .slice ta tn tc, .int .i64 st] 34)).heap.size := by simp
  clear HW HP HRO h ht hx
  generalize (w.alloc (.cells #[.int .i64 gp, .int .i64 cl, .int .i64 sq, .int .i64 kd, .int .i64 ci, .int .i64 ir, .int .i64 bt, .int .i64 si, .int .i64 q1, .int .i64 q2, .int .i64 q3, .int .i64 q4, .int .i64 q5, .int .i64 q6, .int .i64 q7, .int .i64 n1, .int .i64 n2, .int .i64 n3, .int .i64 n4, .int .i64 n5, .int .i64 t1, .int .i64 t2, .int .i64 c, .int .i64 m, .int .i64 wk, .slice ta tn tc, .int .i64 st] 34)) = W0 at *
  generalize w.heap.size = QK at *
  have C1 := hid (ints64_lit p [gp] W0 v l _ _ H0.out #[.int .i64 gp] rfl 1 rfl (by decide) (by intro x hx; simp only [List.mem_cons, List.not_mem_nil, or_false] at hx; rcases hx with rfl <;> assumption) (by omega))
  have y0 := BX.out 0 (.int .i64 gp) rfl
  go_wp2_with fail
  with_reducible refine C1.out.mono ?_
  clear y0
  rintro e W1 ⟨⟨r1, rfl⟩, v1, h1, k1⟩
  replace BX := hid (BX.out.wk k1 hQp NB0)
  have hQl1 := Nat.lt_of_lt_of_le hQl k1.size
  have NB1 : v1.ownBlock ≠ some QK := fun e => by rcases k1.row _ e with e | e; exact NB0 e; have := hQl; omega
  replace T := hid (T.out.wk k1 (fun g e => (H0.out.row g e).1))
  have H1 := hid h1
  have K1 := hid (K0.out.trans k1)
  clear C1 h1 k1 H0 K0
  have C2 := hid (ints_lit p [cl, sq] W1 v1 (l ++ bytesZ [gp]) _ _ H1.out #[.int .i64 cl, .int .i64 sq] rfl 2 rfl (by decide) (by intro x hx; simp only [List.mem_cons, List.not_mem_nil, or_false] at hx; rcases hx with rfl | rfl <;> assumption) (by have b0 := bytesZ_len [gp]; simp only [List.length_append, List.length_cons, List.length_nil] at *; omega))
  have y1 := BX.out 1 (.int .i64 cl) rfl
  have y2 := BX.out 2 (.int .i64 sq) rfl
  go_wp2_with fail
  with_reducible refine C2.out.mono ?_
  clear y1 y2
  rintro e W2 ⟨⟨r2, rfl⟩, v2, h2, k2⟩
  replace BX := hid (BX.out.wk k2 hQp NB1)
  have hQl2 := Nat.lt_of_lt_of_le hQl1 k2.size
  have NB2 : v2.ownBlock ≠ some QK := fun e => by rcases k2.row _ e with e | e; exact NB1 e; have := hQl1; omega
  replace T := hid (T.out.wk k2 (fun g e => (H1.out.row g e).1))
  have H2 := hid h2
  have K2 := hid (K1.out.trans k2)
  clear C2 h2 k2 H1 K1
  have C3 := hid (ccommand_any p kd ci ir bt si q1 q2 q3 q4 q5 q6 q7 n1 n2 n3 n4 n5 t1 t2 c m wk ta tn tc tk st W2 v2 ((l ++ bytesZ [gp]) ++ bytesZ [cl, sq]) _ _ H2.out ikd ici iir ibt isi iq1 iq2 iq3 iq4 iq5 iq6 iq7 in1 in2 in3 in4 in5 it1 it2 ic im iwk ist T.out HX.out (by have b0 := bytesZ_len [gp]; have b1 := bytesZ_len [cl, sq]; simp only [List.length_append, List.length_cons, List.length_nil] at *; omega))
  have LD := hid (run_loadAt_mid (P := Try.prog) W2 QK 3 32 [.int .i64 kd, .int .i64 ci, .int .i64 ir, .int .i64 bt, .int .i64 si, .int .i64 q1, .int .i64 q2, .int .i64 q3, .int .i64 q4, .int .i64 q5, .int .i64 q6, .int .i64 q7, .int .i64 n1, .int .i64 n2, .int .i64 n3, .int .i64 n4, .int .i64 n5, .int .i64 t1, .int .i64 t2, .int .i64 c, .int .i64 m, .int .i64 wk, .slice ta tn tc, .int .i64 st] _ (BX.out.range 3 [.int .i64 kd, .int .i64 ci, .int .i64 ir, .int .i64 bt, .int .i64 si, .int .i64 q1, .int .i64 q2, .int .i64 q3, .int .i64 q4, .int .i64 q5, .int .i64 q6, .int .i64 q7, .int .i64 n1, .int .i64 n2, .int .i64 n3, .int .i64 n4, .int .i64 n5, .int .i64 t1, .int .i64 t2, .int .i64 c, .int .i64 m, .int .i64 wk, .slice ta tn tc, .int .i64 st] rfl) Try.underlying32 rfl sizeCmd)
  go_wp2_with (refine wpList_load_cmd rfl (.tmp 17) rfl _ _ rfl _ LD.out ?_)
  clear LD
  with_reducible refine C3.out.mono ?_
  rintro e W3 ⟨⟨r3, rfl⟩, v3, h3, k3⟩
  replace BX := hid (BX.out.wk k3 hQp NB2)
  have hQl3 := Nat.lt_of_lt_of_le hQl2 k3.size
  have NB3 : v3.ownBlock ≠ some QK := fun e => by rcases k3.row _ e with e | e; exact NB2 e; have := hQl2; omega
  replace T := hid (T.out.wk k3 (fun g e => (H2.out.row g e).1))
  have H3 := hid h3
  have K3 := hid (K2.out.trans k3)
  clear C3 h3 k3 H2 K2
  go_wp2_with fail
  first | go_end0 | (refine bodyPost_ret (results_none rfl _ _ _) rfl ?_)
  exact ⟨⟨_, rfl⟩, _, by simpa [entZ, bytesZ, List.append_assoc] using H3.out, K3.out⟩

end Go.Proofs.Ythkbddnkcljjpaa

namespace Go.Proofs.Ythkbddnkcljjpaa
open Go.RowKit Go.Deep
set_option linter.unusedVariables false
set_option linter.unusedSimpArgs false

theorem HoldsN.toP {w w' : World} {a : Option Addr} {n c : Nat} {l : List Int} (h : HoldsN w a n c l) (hb : Below w.heap.size w w') {p : Nat} (hp : w.heap.size ≤ p) : HoldsP p w' a n c l :=
  ⟨h.below hb, fun b o e hn => by
    obtain ⟨b', o', e', hlt, _⟩ := h.2.2.2.2 hn
    rw [e] at e'; cases e'; omega⟩
theorem Box.below {w w' : World} {Q : Nat} {cs : Array Value} (h : Box w Q cs) (hb : Below w.heap.size w w') : Box w' Q cs := fun i x e => keepc hb (h i x e)
set_option maxRecDepth 100000 in
theorem sizeEnt : (Try.prog.info? 34).map (·.size) = some 27 := by kernel_rfl
section
variable {ops : Array Oper} {rest : List Oper} {op : Oper} {a : Act} {w : World} {Q : Exit → Act → World → Prop}
theorem wpList_load_at (ty : Nat) (hw : Region.wanted op (yielded ops a.tmps) = true) (x : Operand) (ho : op.op = .load ty x) (b o : Nat) (hx : a.eval x = .pointer (some ⟨b, o, none⟩)) (cs : Array Value) (hl : (Instr.loadAt ty (.pointer (some ⟨b, o, none⟩))).run Try.prog w = .ok (.agg cs) w)
    (h : wpList Try.prog ops Q rest (a.put op.dst (.agg cs)) w) : wpList Try.prog ops Q (op :: rest) a w := by
  refine Go.BigFrame.wpList_want hw fun _ hK => ?_
  unfold Oper.wp execOp
  simp only [ho, hx, Sem.run_bind, Sem.run_pure, hl, Result.andThen_ok]
  exact hK _ _ h
end
/-- What encoding answers. -/
def encE (tn : Nat) (kd : Int) : Int := if 1024 < tn then 3 else if kd < 0 then 1 else 0
set_option maxRecDepth 100000 in
set_option maxHeartbeats 8000000 in
theorem encode_any (gp cl sq : Int) (kd ci ir bt si q1 q2 q3 q4 q5 q6 q7 n1 n2 n3 n4 n5 : Int) (t1 t2 c m wk : Int) (ta : Option Addr) (tn tc : Nat) (tk : List Int) (st : Int) (w : World) (igp : I64 gp) (icl : I64 cl) (isq : I64 sq) (ikd : I64 kd) (ici : I64 ci) (iir : I64 ir) (ibt : I64 bt) (isi : I64 si) (iq1 : I64 q1) (iq2 : I64 q2) (iq3 : I64 q3) (iq4 : I64 q4) (iq5 : I64 q5) (iq6 : I64 q6) (iq7 : I64 q7) (in1 : I64 n1) (in2 : I64 n2) (in3 : I64 n3) (in4 : I64 n4) (in5 : I64 n5) (it1 : I64 t1) (it2 : I64 t2) (ic : I64 c) (im : I64 m) (iwk : I64 wk) (ist : I64 st) (ht : HoldsN w ta tn tc tk) (hx : ∀ x ∈ tk, I64 x) :
    Calls Try.prog 31 #[.agg #[.int .i64 gp, .int .i64 cl, .int .i64 sq, .int .i64 kd, .int .i64 ci, .int .i64 ir, .int .i64 bt, .int .i64 si, .int .i64 q1, .int .i64 q2, .int .i64 q3, .int .i64 q4, .int .i64 q5, .int .i64 q6, .int .i64 q7, .int .i64 n1, .int .i64 n2, .int .i64 n3, .int .i64 n4, .int .i64 n5, .int .i64 t1, .int .i64 t2, .int .i64 c, .int .i64 m, .int .i64 wk, .slice ta tn tc, .int .i64 st], .func (.func 32) #[] #[]] w fun e w' => ∃ v, e = .returned (.tuple #[v, .int .i64 (encE tn kd)]) ∧ (encE tn kd = 0 → Own w.heap.size w' v (entZ gp cl sq (cmdZ kd ci ir bt si (bytesZ [q1, q2, q3, q4, q5, q6, q7]) (bytesZ [n1, n2, n3, n4, n5]) (taskZ t1 t2 c m wk tk st))).length (entZ gp cl sq (cmdZ kd ci ir bt si (bytesZ [q1, q2, q3, q4, q5, q6, q7]) (bytesZ [n1, n2, n3, n4, n5]) (taskZ t1 t2 c m wk tk st)))) ∧ (encE tn kd ≠ 0 → v = .slice none 0 0) ∧ Below w.heap.size w w' := by
  go_enter Try.func31, Try.ntmps31
  go_upto_region 2 with fail
  have B0 := (Below.refl w.heap.size w).alloc (Nat.le_refl _) (.cells #[.int .i64 gp, .int .i64 cl, .int .i64 sq, .int .i64 kd, .int .i64 ci, .int .i64 ir, .int .i64 bt, .int .i64 si, .int .i64 q1, .int .i64 q2, .int .i64 q3, .int .i64 q4, .int .i64 q5, .int .i64 q6, .int .i64 q7, .int .i64 n1, .int .i64 n2, .int .i64 n3, .int .i64 n4, .int .i64 n5, .int .i64 t1, .int .i64 t2, .int .i64 c, .int .i64 m, .int .i64 wk, .slice ta tn tc, .int .i64 st] 34)
  have B1 := B0.alloc (by simp) (.cells #[.slice none 0 0, .bool false, .bool false] 128)
  have T := hid (ht.toP B1 (p := w.heap.size + 1) (by omega))
  have BX := hid ((Box.alloc w #[.int .i64 gp, .int .i64 cl, .int .i64 sq, .int .i64 kd, .int .i64 ci, .int .i64 ir, .int .i64 bt, .int .i64 si, .int .i64 q1, .int .i64 q2, .int .i64 q3, .int .i64 q4, .int .i64 q5, .int .i64 q6, .int .i64 q7, .int .i64 n1, .int .i64 n2, .int .i64 n3, .int .i64 n4, .int .i64 n5, .int .i64 t1, .int .i64 t2, .int .i64 c, .int .i64 m, .int .i64 wk, .slice ta tn tc, .int .i64 st] (34)).below ((Below.refl _ _).alloc (Nat.le_refl _) (.cells #[.slice none 0 0, .bool false, .bool false] 128)))
  have H0 : Hid (Wr ((w.alloc (.cells #[.int .i64 gp, .int .i64 cl, .int .i64 sq, .int .i64 kd, .int .i64 ci, .int .i64 ir, .int .i64 bt, .int .i64 si, .int .i64 q1, .int .i64 q2, .int .i64 q3, .int .i64 q4, .int .i64 q5, .int .i64 q6, .int .i64 q7, .int .i64 n1, .int .i64 n2, .int .i64 n3, .int .i64 n4, .int .i64 n5, .int .i64 t1, .int .i64 t2, .int .i64 c, .int .i64 m, .int .i64 wk, .slice ta tn tc, .int .i64 st] 34)).alloc (.cells #[.slice none 0 0, .bool false, .bool false] 128)) (w.heap.size + 1) (.slice none 0 0) [] false false) := ⟨⟨by simp [go_sem], by simp [go_sem], by simp [go_sem], by simp [go_sem]⟩, World.ownsRow_nil _ _ _ _, BB.nil⟩
  have HX := hid hx
  have hz : ((w.alloc (.cells #[.int .i64 gp, .int .i64 cl, .int .i64 sq, .int .i64 kd, .int .i64 ci, .int .i64 ir, .int .i64 bt, .int .i64 si, .int .i64 q1, .int .i64 q2, .int .i64 q3, .int .i64 q4, .int .i64 q5, .int .i64 q6, .int .i64 q7, .int .i64 n1, .int .i64 n2, .int .i64 n3, .int .i64 n4, .int .i64 n5, .int .i64 t1, .int .i64 t2, .int .i64 c, .int .i64 m, .int .i64 wk, .slice ta tn tc, .int .i64 st] 34)).alloc (.cells #[.slice none 0 0, .bool false, .bool false] 128)).heap.size = w.heap.size + 1 + 1 := by simp
  clear ht hx B0
  generalize hW : ((w.alloc (.cells #[.int .i64 gp, .int .i64 cl, .int .i64 sq, .int .i64 kd, .int .i64 ci, .int .i64 ir, .int .i64 bt, .int .i64 si, .int .i64 q1, .int .i64 q2, .int .i64 q3, .int .i64 q4, .int .i64 q5, .int .i64 q6, .int .i64 q7, .int .i64 n1, .int .i64 n2, .int .i64 n3, .int .i64 n4, .int .i64 n5, .int .i64 t1, .int .i64 t2, .int .i64 c, .int .i64 m, .int .i64 wk, .slice ta tn tc, .int .i64 st] 34)).alloc (.cells #[.slice none 0 0, .bool false, .bool false] 128)) = W0 at *
  clear hW
  have C1 := hid (centry_any (w.heap.size + 1) gp cl sq kd ci ir bt si q1 q2 q3 q4 q5 q6 q7 n1 n2 n3 n4 n5 t1 t2 c m wk ta tn tc tk st W0 (.slice none 0 0) [] _ _ H0.out igp icl isq ikd ici iir ibt isi iq1 iq2 iq3 iq4 iq5 iq6 iq7 in1 in2 in3 in4 in5 it1 it2 ic im iwk ist T.out HX.out (by simp))
  have LD := hid (run_loadAt_mid (P := Try.prog) W0 w.heap.size 0 34 [.int .i64 gp, .int .i64 cl, .int .i64 sq, .int .i64 kd, .int .i64 ci, .int .i64 ir, .int .i64 bt, .int .i64 si, .int .i64 q1, .int .i64 q2, .int .i64 q3, .int .i64 q4, .int .i64 q5, .int .i64 q6, .int .i64 q7, .int .i64 n1, .int .i64 n2, .int .i64 n3, .int .i64 n4, .int .i64 n5, .int .i64 t1, .int .i64 t2, .int .i64 c, .int .i64 m, .int .i64 wk, .slice ta tn tc, .int .i64 st] _ (BX.out.range 0 [.int .i64 gp, .int .i64 cl, .int .i64 sq, .int .i64 kd, .int .i64 ci, .int .i64 ir, .int .i64 bt, .int .i64 si, .int .i64 q1, .int .i64 q2, .int .i64 q3, .int .i64 q4, .int .i64 q5, .int .i64 q6, .int .i64 q7, .int .i64 n1, .int .i64 n2, .int .i64 n3, .int .i64 n4, .int .i64 n5, .int .i64 t1, .int .i64 t2, .int .i64 c, .int .i64 m, .int .i64 wk, .slice ta tn tc, .int .i64 st] rfl) Try.underlying34 rfl sizeEnt)
  go_wp2_with (refine wpList_load_at 34 rfl (.tmp 2) rfl _ _ rfl _ LD.out ?_)
  with_reducible refine C1.out.mono ?_
  rintro e W1 ⟨⟨r1, rfl⟩, v1, h1, k1⟩
  clear C1 LD
  have hB := B1.trans ((k1.below (by omega) (by intro g e; cases e)).mono (by omega : w.heap.size ≤ w.heap.size + 1))
  rw [List.nil_append] at h1
  have H1 := hid h1.2
  obtain ⟨y0, y1, y2⟩ := h1.1.1
  clear h1 k1 H0 T BX HX B1
  by_cases c1 : 1024 < tn
  · have hE : encE tn kd = 3 := by simp [encE, c1]
    simp only [c1, decide_true, Bool.or_true, Bool.false_or] at y1
    go_wp2_with fail
    refine bodyPost_ret (v := .tuple #[.slice none 0 0, .int .i64 3]) (by simp [results, Try.results31, go_sem]) rfl ⟨_, by rw [hE], by omega, fun _ => rfl, hB⟩
  · simp only [c1, decide_false, Bool.or_false, Bool.false_or] at y1
    by_cases c2 : kd < 0
    · have hE : encE tn kd = 1 := by simp [encE, c1, c2]
      simp only [c2, decide_true, Bool.or_true, Bool.false_or] at y2
      go_wp2_with fail
      refine bodyPost_ret (v := .tuple #[.slice none 0 0, .int .i64 1]) (by simp [results, Try.results31, go_sem]) rfl ⟨_, by rw [hE], by omega, fun _ => rfl, hB⟩
    · have hE : encE tn kd = 0 := by simp [encE, c1, c2]
      simp only [c2, decide_false, Bool.or_false, Bool.false_or] at y2
      go_wp2_with fail
      refine bodyPost_ret (v := .tuple #[v1, .int .i64 0]) (by simp [results, Try.results31, go_sem]) rfl ⟨_, by rw [hE], fun _ => H1.out.base (by omega), by omega, hB⟩

set_option maxRecDepth 100000 in
set_option maxHeartbeats 8000000 in
theorem encentry_any (gp cl sq : Int) (kd ci ir bt si q1 q2 q3 q4 q5 q6 q7 n1 n2 n3 n4 n5 : Int) (t1 t2 c m wk : Int) (ta : Option Addr) (tn tc : Nat) (tk : List Int) (st : Int) (w : World) (igp : I64 gp) (icl : I64 cl) (isq : I64 sq) (ikd : I64 kd) (ici : I64 ci) (iir : I64 ir) (ibt : I64 bt) (isi : I64 si) (iq1 : I64 q1) (iq2 : I64 q2) (iq3 : I64 q3) (iq4 : I64 q4) (iq5 : I64 q5) (iq6 : I64 q6) (iq7 : I64 q7) (in1 : I64 n1) (in2 : I64 n2) (in3 : I64 n3) (in4 : I64 n4) (in5 : I64 n5) (it1 : I64 t1) (it2 : I64 t2) (ic : I64 c) (im : I64 m) (iwk : I64 wk) (ist : I64 st) (ht : HoldsN w ta tn tc tk) (hx : ∀ x ∈ tk, I64 x) :
    Calls Try.prog 12 #[.agg #[.int .i64 gp, .int .i64 cl, .int .i64 sq, .int .i64 kd, .int .i64 ci, .int .i64 ir, .int .i64 bt, .int .i64 si, .int .i64 q1, .int .i64 q2, .int .i64 q3, .int .i64 q4, .int .i64 q5, .int .i64 q6, .int .i64 q7, .int .i64 n1, .int .i64 n2, .int .i64 n3, .int .i64 n4, .int .i64 n5, .int .i64 t1, .int .i64 t2, .int .i64 c, .int .i64 m, .int .i64 wk, .slice ta tn tc, .int .i64 st]] w fun e w' => ∃ v, e = .returned (.tuple #[v, .int .i64 (encE tn kd)]) ∧ (encE tn kd = 0 → Own w.heap.size w' v (entZ gp cl sq (cmdZ kd ci ir bt si (bytesZ [q1, q2, q3, q4, q5, q6, q7]) (bytesZ [n1, n2, n3, n4, n5]) (taskZ t1 t2 c m wk tk st))).length (entZ gp cl sq (cmdZ kd ci ir bt si (bytesZ [q1, q2, q3, q4, q5, q6, q7]) (bytesZ [n1, n2, n3, n4, n5]) (taskZ t1 t2 c m wk tk st)))) ∧ (encE tn kd ≠ 0 → v = .slice none 0 0) ∧ Below w.heap.size w w' := by
  go_enter Try.func12, Try.ntmps12
  go_upto_region 1 with fail
  have B0 := (Below.refl w.heap.size w).alloc (Nat.le_refl _) (.cells #[.int .i64 gp, .int .i64 cl, .int .i64 sq, .int .i64 kd, .int .i64 ci, .int .i64 ir, .int .i64 bt, .int .i64 si, .int .i64 q1, .int .i64 q2, .int .i64 q3, .int .i64 q4, .int .i64 q5, .int .i64 q6, .int .i64 q7, .int .i64 n1, .int .i64 n2, .int .i64 n3, .int .i64 n4, .int .i64 n5, .int .i64 t1, .int .i64 t2, .int .i64 c, .int .i64 m, .int .i64 wk, .slice ta tn tc, .int .i64 st] 34)
  have T := hid (ht.below B0)
  have BX := hid (Box.alloc w #[.int .i64 gp, .int .i64 cl, .int .i64 sq, .int .i64 kd, .int .i64 ci, .int .i64 ir, .int .i64 bt, .int .i64 si, .int .i64 q1, .int .i64 q2, .int .i64 q3, .int .i64 q4, .int .i64 q5, .int .i64 q6, .int .i64 q7, .int .i64 n1, .int .i64 n2, .int .i64 n3, .int .i64 n4, .int .i64 n5, .int .i64 t1, .int .i64 t2, .int .i64 c, .int .i64 m, .int .i64 wk, .slice ta tn tc, .int .i64 st] (34))
  have HX := hid hx
  have hz : (w.alloc (.cells #[.int .i64 gp, .int .i64 cl, .int .i64 sq, .int .i64 kd, .int .i64 ci, .int .i64 ir, .int .i64 bt, .int .i64 si, .int .i64 q1, .int .i64 q2, .int .i64 q3, .int .i64 q4, .int .i64 q5, .int .i64 q6, .int .i64 q7, .int .i64 n1, .int .i64 n2, .int .i64 n3, .int .i64 n4, .int .i64 n5, .int .i64 t1, .int .i64 t2, .int .i64 c, .int .i64 m, .int .i64 wk, .slice ta tn tc, .int .i64 st] 34)).heap.size = w.heap.size + 1 := by simp
  clear ht hx
  generalize hW : (w.alloc (.cells #[.int .i64 gp, .int .i64 cl, .int .i64 sq, .int .i64 kd, .int .i64 ci, .int .i64 ir, .int .i64 bt, .int .i64 si, .int .i64 q1, .int .i64 q2, .int .i64 q3, .int .i64 q4, .int .i64 q5, .int .i64 q6, .int .i64 q7, .int .i64 n1, .int .i64 n2, .int .i64 n3, .int .i64 n4, .int .i64 n5, .int .i64 t1, .int .i64 t2, .int .i64 c, .int .i64 m, .int .i64 wk, .slice ta tn tc, .int .i64 st] 34)) = W0 at *
  clear hW
  have C1 := hid (encode_any gp cl sq kd ci ir bt si q1 q2 q3 q4 q5 q6 q7 n1 n2 n3 n4 n5 t1 t2 c m wk ta tn tc tk st W0 igp icl isq ikd ici iir ibt isi iq1 iq2 iq3 iq4 iq5 iq6 iq7 in1 in2 in3 in4 in5 it1 it2 ic im iwk ist T.out HX.out)
  have LD := hid (run_loadAt_mid (P := Try.prog) W0 w.heap.size 0 34 [.int .i64 gp, .int .i64 cl, .int .i64 sq, .int .i64 kd, .int .i64 ci, .int .i64 ir, .int .i64 bt, .int .i64 si, .int .i64 q1, .int .i64 q2, .int .i64 q3, .int .i64 q4, .int .i64 q5, .int .i64 q6, .int .i64 q7, .int .i64 n1, .int .i64 n2, .int .i64 n3, .int .i64 n4, .int .i64 n5, .int .i64 t1, .int .i64 t2, .int .i64 c, .int .i64 m, .int .i64 wk, .slice ta tn tc, .int .i64 st] _ (BX.out.range 0 [.int .i64 gp, .int .i64 cl, .int .i64 sq, .int .i64 kd, .int .i64 ci, .int .i64 ir, .int .i64 bt, .int .i64 si, .int .i64 q1, .int .i64 q2, .int .i64 q3, .int .i64 q4, .int .i64 q5, .int .i64 q6, .int .i64 q7, .int .i64 n1, .int .i64 n2, .int .i64 n3, .int .i64 n4, .int .i64 n5, .int .i64 t1, .int .i64 t2, .int .i64 c, .int .i64 m, .int .i64 wk, .slice ta tn tc, .int .i64 st] rfl) Try.underlying34 rfl sizeEnt)
  go_wp2_with (refine wpList_load_at 34 rfl (.tmp 1) rfl _ _ rfl _ LD.out ?_)
  with_reducible refine C1.out.mono ?_
  rintro e W1 ⟨v1, rfl, h1, h2, h3⟩
  clear C1 LD T BX HX
  go_wp2_with fail
  refine bodyPost_ret (v := .tuple #[v1, .int .i64 (encE tn kd)]) (by simp [results, Try.results12, go_sem]) rfl ⟨_, rfl, fun h => (h1 h).base (by omega), h2, B0.trans (h3.mono (by omega))⟩
end Go.Proofs.Ythkbddnkcljjpaa
