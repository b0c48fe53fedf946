/-
  Contracts of command: an entry is decoded.
-/
import Derived.Test.YtkjglpgjflkmbaaCZ
import Derived.Test.YtkjglpgjflkmbaaCR
namespace Go.Proofs.Ytkjglpgjflkmbaa
open Go.RowKit Go.Deep Go.Maps
set_option linter.unusedVariables false
set_option linter.unusedSimpArgs false

theorem alloc_row (w : World) (old cs : Array Value) (t : Nat) : (w.alloc (.cells old t)).setRow w.heap.size cs = w.alloc (.cells cs t) := by
  unfold World.setRow World.alloc
  simp only [World.mk.injEq, true_and, and_true]
  apply Array.ext_getElem?
  intro i
  simp only [Array.getElem?_modify, Array.getElem?_push]
  by_cases e : w.heap.size = i
  · subst e; simp
  · have e' : ¬ i = w.heap.size := fun h => e h.symm
    simp [e, e']
theorem Blk.loadAt {W : World} {Q t ty : Nat} {cs : Array Value} {d : TypeDesc} (h : Blk W Q t cs) (hu : Try.prog.underlying ty = some d) (hd : d.isRow = true) (hi : (Try.prog.info? ty).map (·.size) = some cs.size) : (Instr.loadAt ty (.pointer (some ⟨Q, 0, none⟩))).run Try.prog W = .ok (.agg cs) W := by
  simp only [Instr.loadAt, Instr.sureAddr, Sem.run_bind, Sem.run_pure, Result.andThen_ok, h.loadVar hu hd hi]
theorem Blk.other {W : World} {Q t q : Nat} {cs ds : Array Value} (h : Blk W Q t cs) (hq : Q ≠ q) : Blk (W.setRow q ds) Q t cs := (setRow_other W q Q ds hq).trans h
theorem Blk.cellO {W : World} {Q t : Nat} {cs : Array Value} (h : Blk W Q t cs) (a : Addr) (v : Value) (hq : Q ≠ a.block) : Blk (W.setCell a v) Q t cs := (Below.heap_setCell W a v Q hq).trans h
theorem RdC.put {W : World} {p : Nat} {b : Value} {A E : Int} (h : RdC W p b A E) (F : Int) : RdC (W.setCell ⟨p, 2, none⟩ (.int .i64 F)) p b A F := by
  obtain ⟨⟨h1, h2, h3⟩, f1, f2, f3⟩ := h
  refine ⟨⟨?_, ?_, ?_⟩, ?_, ?_, ?_⟩ <;> simp [go_sem, h1, h2, h3, f1, f2, f3]
theorem setRow_below {w W : World} {q : Nat} {cs : Array Value} (h : Below w.heap.size w W) (hq : w.heap.size ≤ q) : Below w.heap.size w (W.setRow q cs) :=
  ⟨h.os, h.tape, h.output, by simpa using h.size, fun b hb => (setRow_other W q b cs (by omega)).trans (h.block b hb)⟩
/-- A store of a whole row, among operations whose order is drawn. -/
theorem storeRow_step {ops : Array Oper} {o : Oper} {a : Act} {Q : Exit → Act → World → Prop} {K : Act → World → Prop} {wr : World} (hg : o.guard = none) (ty : TypeId) (x y : Operand) (hop : o.op = .store ty x y) (g : Nat) (cs : Array Value) (hx : a.eval x = .pointer (some ⟨g, 0, none⟩)) (hy : a.eval y = .agg cs)
    (t : TypeId) (old : Array Value) (hh : wr.heap[g]? = some (.cells old t (0, 0))) (hi : (Try.prog.info? ty).map (·.size) = some cs.size) (hold : old.size = cs.size) (h1 : cs.all (·.oneCell') = true)
    (hK : K (a.put o.dst undef) (wr.setRow g cs)) : if Region.wanted o (yielded ops a.tmps) = true then Oper.wp Try.prog o a wr K Q else K (a.put o.dst undef) wr := by
  rw [if_pos (by simp [Region.wanted, hg])]
  exact wp_store_row ty x y hop g cs hx hy t old hh hi hold h1 hK
theorem OwnE.cellO {α : Type} {e : TypeId} {k : Nat} {enc : α → List Value} {base n : Nat} {l : List α} {v : Value} {w : World} (h : OwnE e k enc base w v n l) (a : Addr) (u : Value) (h1 : a.block < base) : OwnE e k enc base (w.setCell a u) v n l := by
  obtain ⟨h0, h3, h4⟩ := h
  refine ⟨h0, h3, ?_⟩
  rcases h4 with h4 | ⟨g, cap, cur, hv, hg, hh, r⟩
  · exact .inl h4
  · exact .inr ⟨g, cap, cur, hv, hg, (Below.heap_setCell w a u g (by omega)).trans hh, r⟩

/-- An entry's cells, as it is read. -/
def enV (l : List Int) (A E : Int) (v : Value) : Array Value := #[.int .i64 (tkc l A E 0).1, .int .i64 (tkc l A E 1).1, .int .i64 (tkc l A E 2).1, .int .i64 (enK l A E), .int .i64 (enN l A E 0).1, .int .i64 (enN l A E 1).1, .int .i64 (enN l A E 2).1, .int .i64 (enN l A E 3).1, .int .i64 (enN l A E 4).1, .int .i64 (enN l A E 5).1, .int .i64 (enN l A E 6).1, .int .i64 (enN l A E 7).1, .int .i64 (enN l A E 8).1, .int .i64 (enN l A E 9).1, .int .i64 (enN l A E 10).1, .int .i64 (enN l A E 11).1, .int .i64 (enN l A E 12).1, .int .i64 (enN l A E 13).1, .int .i64 (enN l A E 14).1, .int .i64 (enN l A E 15).1, .int .i64 (enN l A E 16).1, .int .i64 (enN l A E 17).1, .int .i64 (enN l A E 18).1, .int .i64 (enN l A E 19).1, .int .i64 (enN l A E 20).1, v, .int .i64 (enE l A E).1]
/-- An entry that was read: its cells, its tickets in memory of its own. -/
def EnO (l : List Int) (A E : Int) (base : Nat) (W : World) (cs : Array Value) : Prop := ∃ v, cs = enV l A E v ∧ OwnN base W v (enC l A E) (enL l A E)
theorem EnO.below' {l : List Int} {A E : Int} {base : Nat} {W W' : World} {cs : Array Value} (h : EnO l A E base W cs) (hb : Below W.heap.size W W') : EnO l A E base W' cs := by
  obtain ⟨v, h1, h2⟩ := h; exact ⟨v, h1, h2.below hb⟩
theorem EnO.row {l : List Int} {A E : Int} {base q : Nat} {W : World} {cs : Array Value} (h : EnO l A E base W cs) (h1 : q < base) (ds : Array Value) : EnO l A E base (W.setRow q ds) cs := by
  obtain ⟨v, e, h2⟩ := h; exact ⟨v, e, h2.row h1 ds⟩
theorem EnO.weaken {l : List Int} {A E : Int} {base b' : Nat} {W : World} {cs : Array Value} (h : EnO l A E base W cs) (hb : b' ≤ base) : EnO l A E b' W cs := by
  obtain ⟨v, e, h2⟩ := h; exact ⟨v, e, h2.weaken hb⟩
theorem rdentry_cs (p : Nat) (a : Option Addr) (n c : Nat) (l : List Int) (A E : Int) (w : World) (h : RdC w p (.slice a n c) A E) (hl : HoldsB w a n c l) (h0 : 0 ≤ A) (h1 : A ≤ n) (hne : ∀ b o, a = some ⟨b, o, none⟩ → 0 < n → b ≠ p) :
    Calls Try.prog 51 #[.pointer (some ⟨p, 0, none⟩)] w fun e w' => ∃ cs, e = .returned (.agg cs) ∧ cs.size = 27 ∧ cs.all (·.oneCell') = true ∧ EnO l A E w.heap.size w' cs ∧ RdC w' p (.slice a n c) (enE l A E).2.1 (enE l A E).2.2 ∧ RK p w w' := by
  refine (rdentry_any p a n c l A E w h hl h0 h1 hne).mono ?_
  rintro e w' ⟨v, rfl, h2, h3, h4⟩
  obtain ⟨va, vc, rfl⟩ := h2.form
  exact ⟨enV l A E (.slice va (enC l A E) vc), rfl, rfl, by simp [enV, Value.oneCell'], ⟨_, rfl, h2⟩, h3, h4⟩

set_option maxRecDepth 100000 in
set_option maxHeartbeats 8000000 in
theorem decE_any (a : Option Addr) (n c : Nat) (l : List Int) (w : World) (hl : HoldsB w a n c l) :
    Calls Try.prog 50 #[.slice a n c, .func (.func 51) #[] #[]] w fun e w' => ∃ cs, e = .returned (.tuple #[.agg cs, .int .i64 (endT n (enE l 0 0).2.1 (enE l 0 0).2.2).1, .int .i64 (endT n (enE l 0 0).2.1 (enE l 0 0).2.2).2]) ∧ ((endT n (enE l 0 0).2.1 (enE l 0 0).2.2).2 ≠ 0 → cs = #[.int .i64 0, .int .i64 0, .int .i64 0, .int .i64 0, .int .i64 0, .int .i64 0, .int .i64 0, .int .i64 0, .int .i64 0, .int .i64 0, .int .i64 0, .int .i64 0, .int .i64 0, .int .i64 0, .int .i64 0, .int .i64 0, .int .i64 0, .int .i64 0, .int .i64 0, .int .i64 0, .int .i64 0, .int .i64 0, .int .i64 0, .int .i64 0, .int .i64 0, .slice none 0 0, .int .i64 0]) ∧ ((endT n (enE l 0 0).2.1 (enE l 0 0).2.2).2 = 0 → EnO l 0 0 w.heap.size w' cs) ∧ cs.size = 27 ∧ cs.all (·.oneCell') = true ∧ Below w.heap.size w w' := by
  have hlen := hl.1
  have hblk : ∀ b o, a = some ⟨b, o, none⟩ → 0 < n → b < w.heap.size := fun b o e hp => by
    obtain ⟨b', o', e', hc⟩ := hl.2.2.2.2.2.2 hp
    rw [e] at e'; cases e'
    exact cell_lt (hc 0 hp)
  go_enter Try.func50, Try.ntmps50
  go_upto_region 2 with fail
  have B0 := ((Below.refl w.heap.size w).alloc (Nat.le_refl _) (.cells #[.int .i64 0, .int .i64 0, .int .i64 0, .int .i64 0, .int .i64 0, .int .i64 0, .int .i64 0, .int .i64 0, .int .i64 0, .int .i64 0, .int .i64 0, .int .i64 0, .int .i64 0, .int .i64 0, .int .i64 0, .int .i64 0, .int .i64 0, .int .i64 0, .int .i64 0, .int .i64 0, .int .i64 0, .int .i64 0, .int .i64 0, .int .i64 0, .int .i64 0, .slice none 0 0, .int .i64 0] 34)).alloc (by simp) (.cells #[.slice a n c, .int .i64 0, .int .i64 0] 151)
  have L0 := hid (hl.below B0)
  have R0 : Hid (RdC ((w.alloc (.cells #[.int .i64 0, .int .i64 0, .int .i64 0, .int .i64 0, .int .i64 0, .int .i64 0, .int .i64 0, .int .i64 0, .int .i64 0, .int .i64 0, .int .i64 0, .int .i64 0, .int .i64 0, .int .i64 0, .int .i64 0, .int .i64 0, .int .i64 0, .int .i64 0, .int .i64 0, .int .i64 0, .int .i64 0, .int .i64 0, .int .i64 0, .int .i64 0, .int .i64 0, .slice none 0 0, .int .i64 0] 34)).alloc (.cells #[.slice a n c, .int .i64 0, .int .i64 0] 151)) (w.heap.size + 1) (.slice a n c) 0 0) := ⟨⟨by simp [go_sem], by simp [go_sem], by simp [go_sem]⟩, by simp [go_sem], by simp [go_sem], by simp [go_sem]⟩
  have Q0 := hid ((Blk.alloc w #[.int .i64 0, .int .i64 0, .int .i64 0, .int .i64 0, .int .i64 0, .int .i64 0, .int .i64 0, .int .i64 0, .int .i64 0, .int .i64 0, .int .i64 0, .int .i64 0, .int .i64 0, .int .i64 0, .int .i64 0, .int .i64 0, .int .i64 0, .int .i64 0, .int .i64 0, .int .i64 0, .int .i64 0, .int .i64 0, .int .i64 0, .int .i64 0, .int .i64 0, .slice none 0 0, .int .i64 0] (34)).below ((Below.refl _ _).alloc (Nat.le_refl _) (.cells #[.slice a n c, .int .i64 0, .int .i64 0] 151)))
  have z0 : ((w.alloc (.cells #[.int .i64 0, .int .i64 0, .int .i64 0, .int .i64 0, .int .i64 0, .int .i64 0, .int .i64 0, .int .i64 0, .int .i64 0, .int .i64 0, .int .i64 0, .int .i64 0, .int .i64 0, .int .i64 0, .int .i64 0, .int .i64 0, .int .i64 0, .int .i64 0, .int .i64 0, .int .i64 0, .int .i64 0, .int .i64 0, .int .i64 0, .int .i64 0, .int .i64 0, .slice none 0 0, .int .i64 0] 34)).alloc (.cells #[.slice a n c, .int .i64 0, .int .i64 0] 151)).heap.size = w.heap.size + 2 := by simp
  clear hl
  generalize ((w.alloc (.cells #[.int .i64 0, .int .i64 0, .int .i64 0, .int .i64 0, .int .i64 0, .int .i64 0, .int .i64 0, .int .i64 0, .int .i64 0, .int .i64 0, .int .i64 0, .int .i64 0, .int .i64 0, .int .i64 0, .int .i64 0, .int .i64 0, .int .i64 0, .int .i64 0, .int .i64 0, .int .i64 0, .int .i64 0, .int .i64 0, .int .i64 0, .int .i64 0, .int .i64 0, .slice none 0 0, .int .i64 0] 34)).alloc (.cells #[.slice a n c, .int .i64 0, .int .i64 0] 151)) = W0 at *
  have C1 := hid (rdentry_cs (w.heap.size + 1) a n c l 0 0 W0 R0.out L0.out (by omega) (by omega) (fun b o e hp => by have := hblk b o e hp; omega))
  obtain ⟨p, hp⟩ : ∃ p, p = w.heap.size + 1 := ⟨_, rfl⟩
  rw [← hp] at C1 R0
  rw [← hp]
  have HP := hid hp
  clear R0 L0 hblk hp
  go_wp2_with fail
  with_reducible refine C1.out.mono ?_
  rintro e W1 ⟨cs, rfl, hcs, hon, hca, r1, k1⟩
  clear C1
  have hsz : (Try.prog.info? 34).map (·.size) = some cs.size := by rw [hcs]; exact sizeEnt
  have Q1 := Q0.out.rk k1 (by have := HP.out; omega)
  have B1 := B0.trans ((show Below w.heap.size W0 W1 from ⟨k1.os, k1.tape, k1.output, k1.size, fun b hb => k1.block b (by omega) (by have := HP.out; omega) (by intro e; cases e)⟩))
  have hs1 := k1.size
  clear B0 Q0 k1
  generalize hpo : (enE l 0 0).2 = PS at *
  have EP := hid hpo
  clear hpo
  obtain ⟨A1, E1⟩ := PS
  simp only at r1
  go_upto_region 3 with (refine wpList_store_row rfl 34 (.tmp 8) (.tmp 15) rfl W1.heap.size cs rfl rfl 34 _ (heap_alloc_new W1 _) hsz (by rw [hcs]; rfl) hon ?_)
  rw [alloc_row]
  have b2 := (Below.refl W1.heap.size W1).alloc (Nat.le_refl _) (.cells cs 34)
  have BV := hid (Blk.alloc W1 cs (34))
  have RD := hid (r1.below b2)
  have QR := hid (Q1.below b2)
  have BL := hid (B1.alloc B1.size (.cells cs 34))
  have CA := hid (hca.below' b2)
  have nv : W1.heap.size ≠ w.heap.size ∧ W1.heap.size ≠ p := by have := HP.out; omega
  clear r1 Q1 B1 b2 hca
  generalize W1.alloc (.cells cs 34) = WF at *
  generalize W1.heap.size = QV at *
  obtain ⟨⟨y0, y1, y2⟩, f0, f1, f2⟩ := RD.out
  by_cases hE : E1 = 0
  · subst hE
    by_cases hA : A1 < (n : Int)
    · have T := hid (show endT n A1 0 = (A1, 7) by unfold endT; rw [if_pos rfl, if_pos hA])
      have tA : decide (A1 < (n : Int)) = true := by simp; omega
      go_upto_region 5 with fail
      replace RD := hid (RD.out.put 7)
      replace QR := hid (QR.out.cellO ⟨p, 2, none⟩ (.int .i64 7) (by show w.heap.size ≠ p; have := HP.out; omega))
      replace BL := hid (BL.out.setCell (p := ⟨p, 2, none⟩) (by show w.heap.size ≤ p; have := HP.out; omega) (.int .i64 7))
      clear y0 y1 y2 f0 f1 f2 CA BV
      generalize WF.setCell ⟨p, 2, none⟩ (.int .i64 7) = WF at *
      obtain ⟨⟨y0, y1, y2⟩, f0, f1, f2⟩ := RD.out
      go_upto_region 7 with fail
      have BZ := Blk.alloc WF #[.int .i64 0, .int .i64 0, .int .i64 0, .int .i64 0, .int .i64 0, .int .i64 0, .int .i64 0, .int .i64 0, .int .i64 0, .int .i64 0, .int .i64 0, .int .i64 0, .int .i64 0, .int .i64 0, .int .i64 0, .int .i64 0, .int .i64 0, .int .i64 0, .int .i64 0, .int .i64 0, .int .i64 0, .int .i64 0, .int .i64 0, .int .i64 0, .int .i64 0, .slice none 0 0, .int .i64 0] (34)
      have RF := RD.out.below ((Below.refl WF.heap.size WF).alloc (Nat.le_refl _) (.cells #[.int .i64 0, .int .i64 0, .int .i64 0, .int .i64 0, .int .i64 0, .int .i64 0, .int .i64 0, .int .i64 0, .int .i64 0, .int .i64 0, .int .i64 0, .int .i64 0, .int .i64 0, .int .i64 0, .int .i64 0, .int .i64 0, .int .i64 0, .int .i64 0, .int .i64 0, .int .i64 0, .int .i64 0, .int .i64 0, .int .i64 0, .int .i64 0, .int .i64 0, .slice none 0 0, .int .i64 0] 34))
      have QF := QR.out.below ((Below.refl WF.heap.size WF).alloc (Nat.le_refl _) (.cells #[.int .i64 0, .int .i64 0, .int .i64 0, .int .i64 0, .int .i64 0, .int .i64 0, .int .i64 0, .int .i64 0, .int .i64 0, .int .i64 0, .int .i64 0, .int .i64 0, .int .i64 0, .int .i64 0, .int .i64 0, .int .i64 0, .int .i64 0, .int .i64 0, .int .i64 0, .int .i64 0, .int .i64 0, .int .i64 0, .int .i64 0, .int .i64 0, .int .i64 0, .slice none 0 0, .int .i64 0] 34))
      have BF := BL.out.alloc BL.out.size (.cells #[.int .i64 0, .int .i64 0, .int .i64 0, .int .i64 0, .int .i64 0, .int .i64 0, .int .i64 0, .int .i64 0, .int .i64 0, .int .i64 0, .int .i64 0, .int .i64 0, .int .i64 0, .int .i64 0, .int .i64 0, .int .i64 0, .int .i64 0, .int .i64 0, .int .i64 0, .int .i64 0, .int .i64 0, .int .i64 0, .int .i64 0, .int .i64 0, .int .i64 0, .slice none 0 0, .int .i64 0] 34)
      have nz : WF.heap.size ≠ w.heap.size := by have := QR.out.lt; omega
      generalize WF.alloc (.cells #[.int .i64 0, .int .i64 0, .int .i64 0, .int .i64 0, .int .i64 0, .int .i64 0, .int .i64 0, .int .i64 0, .int .i64 0, .int .i64 0, .int .i64 0, .int .i64 0, .int .i64 0, .int .i64 0, .int .i64 0, .int .i64 0, .int .i64 0, .int .i64 0, .int .i64 0, .int .i64 0, .int .i64 0, .int .i64 0, .int .i64 0, .int .i64 0, .int .i64 0, .slice none 0 0, .int .i64 0] 34) = WG at *
      generalize WF.heap.size = QZ at *
      have dz : Blk WG.drew QZ 34 #[.int .i64 0, .int .i64 0, .int .i64 0, .int .i64 0, .int .i64 0, .int .i64 0, .int .i64 0, .int .i64 0, .int .i64 0, .int .i64 0, .int .i64 0, .int .i64 0, .int .i64 0, .int .i64 0, .int .i64 0, .int .i64 0, .int .i64 0, .int .i64 0, .int .i64 0, .int .i64 0, .int .i64 0, .int .i64 0, .int .i64 0, .int .i64 0, .int .i64 0, .slice none 0 0, .int .i64 0] := BZ
      have da : WG.drew.cell? ⟨p, 1, none⟩ = some (.int .i64 A1) := RF.1.2.1
      have de : WG.drew.cell? ⟨p, 2, none⟩ = some (.int .i64 7) := RF.1.2.2
      have dq : Blk WG.drew w.heap.size 34 #[.int .i64 0, .int .i64 0, .int .i64 0, .int .i64 0, .int .i64 0, .int .i64 0, .int .i64 0, .int .i64 0, .int .i64 0, .int .i64 0, .int .i64 0, .int .i64 0, .int .i64 0, .int .i64 0, .int .i64 0, .int .i64 0, .int .i64 0, .int .i64 0, .int .i64 0, .int .i64 0, .int .i64 0, .int .i64 0, .int .i64 0, .int .i64 0, .int .i64 0, .slice none 0 0, .int .i64 0] := QF
      have db : Below w.heap.size w WG.drew := BF.drew
      refine wp_region_held_drew (S := fun W => Blk W QZ 34 #[.int .i64 0, .int .i64 0, .int .i64 0, .int .i64 0, .int .i64 0, .int .i64 0, .int .i64 0, .int .i64 0, .int .i64 0, .int .i64 0, .int .i64 0, .int .i64 0, .int .i64 0, .int .i64 0, .int .i64 0, .int .i64 0, .int .i64 0, .int .i64 0, .int .i64 0, .int .i64 0, .int .i64 0, .int .i64 0, .int .i64 0, .int .i64 0, .int .i64 0, .slice none 0 0, .int .i64 0] ∧ W.cell? ⟨p, 1, none⟩ = some (.int .i64 A1) ∧ W.cell? ⟨p, 2, none⟩ = some (.int .i64 7)) (by kernel_rfl) ⟨dz, da, de⟩ (fun hHeld => ?_)
      generalize WG.drew = WD at *
      refine wpAnyH_take (i := 0) (v := .agg #[.int .i64 0, .int .i64 0, .int .i64 0, .int .i64 0, .int .i64 0, .int .i64 0, .int .i64 0, .int .i64 0, .int .i64 0, .int .i64 0, .int .i64 0, .int .i64 0, .int .i64 0, .int .i64 0, .int .i64 0, .int .i64 0, .int .i64 0, .int .i64 0, .int .i64 0, .int .i64 0, .int .i64 0, .int .i64 0, .int .i64 0, .int .i64 0, .int .i64 0, .slice none 0 0, .int .i64 0]) rfl (by kernel_rfl) (by kernel_rfl) (by kernel_rfl) (fun _ _ _ h => h) (yieldsIf_load_mid (by rfl) 34 (.tmp 9) rfl QZ 0 rfl (#[.int .i64 0, .int .i64 0, .int .i64 0, .int .i64 0, .int .i64 0, .int .i64 0, .int .i64 0, .int .i64 0, .int .i64 0, .int .i64 0, .int .i64 0, .int .i64 0, .int .i64 0, .int .i64 0, .int .i64 0, .int .i64 0, .int .i64 0, .int .i64 0, .int .i64 0, .int .i64 0, .int .i64 0, .int .i64 0, .int .i64 0, .int .i64 0, .int .i64 0, .slice none 0 0, .int .i64 0] : Array Value).toList _ (fun W hW => hW.1.range) Try.underlying34 rfl sizeEnt) (by assumption) ?_
      (try simp only [Act.put, List.getElem_toArray, List.getElem_cons_succ, List.getElem_cons_zero, List.setIfInBounds_toArray, List.set_cons_zero, List.set_cons_succ])
      refine wpAnyH_take (i := 1) (v := .pointer (some ⟨p, 0, none⟩)) rfl (by kernel_rfl) (by kernel_rfl) (by kernel_rfl) (fun _ _ _ h => h) (Or.inl ⟨by rfl, ?_⟩) (by assumption) ?_
      · (intro w hSw; (try dsimp only at hSw); obtain ⟨hz, ha, he⟩ := hSw; go_simp)
      (try simp only [Act.put, List.getElem_toArray, List.getElem_cons_succ, List.getElem_cons_zero, List.setIfInBounds_toArray, List.set_cons_zero, List.set_cons_succ])
      refine wpAnyH_take (i := 2) (v := .pointer (some ⟨p, 0, none⟩)) rfl (by kernel_rfl) (by kernel_rfl) (by kernel_rfl) (fun _ _ _ h => h) (Or.inl ⟨by rfl, ?_⟩) (by assumption) ?_
      · (intro w hSw; (try dsimp only at hSw); obtain ⟨hz, ha, he⟩ := hSw; go_simp)
      (try simp only [Act.put, List.getElem_toArray, List.getElem_cons_succ, List.getElem_cons_zero, List.setIfInBounds_toArray, List.set_cons_zero, List.set_cons_succ])
      refine wpAnyH_take (i := 3) (v := .pointer (some ⟨p, 1, none⟩)) rfl (by kernel_rfl) (by kernel_rfl) (by kernel_rfl) (fun _ _ _ h => h) (Or.inl ⟨by rfl, ?_⟩) (by assumption) ?_
      · (intro w hSw; (try dsimp only at hSw); obtain ⟨hz, ha, he⟩ := hSw; go_simp)
      (try simp only [Act.put, List.getElem_toArray, List.getElem_cons_succ, List.getElem_cons_zero, List.setIfInBounds_toArray, List.set_cons_zero, List.set_cons_succ])
      refine wpAnyH_take (i := 4) (v := .int .i64 A1) rfl (by kernel_rfl) (by kernel_rfl) (by kernel_rfl) (fun _ _ _ h => h) (Or.inl ⟨by rfl, ?_⟩) (by assumption) ?_
      · (intro w hSw; (try dsimp only at hSw); obtain ⟨hz, ha, he⟩ := hSw; go_simp)
      (try simp only [Act.put, List.getElem_toArray, List.getElem_cons_succ, List.getElem_cons_zero, List.setIfInBounds_toArray, List.set_cons_zero, List.set_cons_succ])
      refine wpAnyH_take (i := 5) (v := .pointer (some ⟨p, 0, none⟩)) rfl (by kernel_rfl) (by kernel_rfl) (by kernel_rfl) (fun _ _ _ h => h) (Or.inl ⟨by rfl, ?_⟩) (by assumption) ?_
      · (intro w hSw; (try dsimp only at hSw); obtain ⟨hz, ha, he⟩ := hSw; go_simp)
      (try simp only [Act.put, List.getElem_toArray, List.getElem_cons_succ, List.getElem_cons_zero, List.setIfInBounds_toArray, List.set_cons_zero, List.set_cons_succ])
      refine wpAnyH_take (i := 6) (v := .pointer (some ⟨p, 0, none⟩)) rfl (by kernel_rfl) (by kernel_rfl) (by kernel_rfl) (fun _ _ _ h => h) (Or.inl ⟨by rfl, ?_⟩) (by assumption) ?_
      · (intro w hSw; (try dsimp only at hSw); obtain ⟨hz, ha, he⟩ := hSw; go_simp)
      (try simp only [Act.put, List.getElem_toArray, List.getElem_cons_succ, List.getElem_cons_zero, List.setIfInBounds_toArray, List.set_cons_zero, List.set_cons_succ])
      refine wpAnyH_take (i := 7) (v := .pointer (some ⟨p, 2, none⟩)) rfl (by kernel_rfl) (by kernel_rfl) (by kernel_rfl) (fun _ _ _ h => h) (Or.inl ⟨by rfl, ?_⟩) (by assumption) ?_
      · (intro w hSw; (try dsimp only at hSw); obtain ⟨hz, ha, he⟩ := hSw; go_simp)
      (try simp only [Act.put, List.getElem_toArray, List.getElem_cons_succ, List.getElem_cons_zero, List.setIfInBounds_toArray, List.set_cons_zero, List.set_cons_succ])
      refine wpAnyH_take (i := 8) (v := .int .i64 7) rfl (by kernel_rfl) (by kernel_rfl) (by kernel_rfl) (fun _ _ _ h => h) (Or.inl ⟨by rfl, ?_⟩) (by assumption) ?_
      · (intro w hSw; (try dsimp only at hSw); obtain ⟨hz, ha, he⟩ := hSw; go_simp)
      (try simp only [Act.put, List.getElem_toArray, List.getElem_cons_succ, List.getElem_cons_zero, List.setIfInBounds_toArray, List.set_cons_zero, List.set_cons_succ])
      refine wpAnyH_ready (rs := [9]) (by kernel_rfl) (by simp) ?_
      refine AllReadyH.cons rfl (fun K hK => ?_) AllReadyH.nil
      refine storeRow_step rfl 34 (.tmp 4) (.tmp 38) rfl w.heap.size #[.int .i64 0, .int .i64 0, .int .i64 0, .int .i64 0, .int .i64 0, .int .i64 0, .int .i64 0, .int .i64 0, .int .i64 0, .int .i64 0, .int .i64 0, .int .i64 0, .int .i64 0, .int .i64 0, .int .i64 0, .int .i64 0, .int .i64 0, .int .i64 0, .int .i64 0, .int .i64 0, .int .i64 0, .int .i64 0, .int .i64 0, .int .i64 0, .int .i64 0, .slice none 0 0, .int .i64 0] rfl rfl 34 _ dq sizeEnt rfl (by simp [Value.oneCell']) ?_
      refine hK.out _ _ ⟨dz.other (by omega), (cell_setRow_other _ _ _ _ (by show p ≠ _; have := HP.out; omega)).trans da, (cell_setRow_other _ _ _ _ (by show p ≠ _; have := HP.out; omega)).trans de⟩ (fun hHeld => ?_)
      clear hK K
      (try simp only [Act.put, List.getElem_toArray, List.getElem_cons_succ, List.getElem_cons_zero, List.setIfInBounds_toArray, List.set_cons_zero, List.set_cons_succ])
      refine wpAnyH_take (i := 10) (v := .int .i64 A1) rfl (by kernel_rfl) (by kernel_rfl) (by kernel_rfl) (fun _ _ _ h => h) (Or.inl ⟨by rfl, ?_⟩) (by assumption) ?_
      · (intro w hSw; (try dsimp only at hSw); obtain ⟨hz, ha, he⟩ := hSw; go_simp)
      (try simp only [Act.put, List.getElem_toArray, List.getElem_cons_succ, List.getElem_cons_zero, List.setIfInBounds_toArray, List.set_cons_zero, List.set_cons_succ])
      refine wpAnyH_take (i := 11) (v := .int .i64 7) rfl (by kernel_rfl) (by kernel_rfl) (by kernel_rfl) (fun _ _ _ h => h) (Or.inl ⟨by rfl, ?_⟩) (by assumption) ?_
      · (intro w hSw; (try dsimp only at hSw); obtain ⟨hz, ha, he⟩ := hSw; go_simp)
      (try simp only [Act.put, List.getElem_toArray, List.getElem_cons_succ, List.getElem_cons_zero, List.setIfInBounds_toArray, List.set_cons_zero, List.set_cons_succ])
      refine wpAnyH_done (by kernel_rfl) ?_ _
      clear hHeld
      go_wp2_with fail
      refine bodyPost_ret (results_cell3 rfl rfl ((dq.row #[.int .i64 0, .int .i64 0, .int .i64 0, .int .i64 0, .int .i64 0, .int .i64 0, .int .i64 0, .int .i64 0, .int .i64 0, .int .i64 0, .int .i64 0, .int .i64 0, .int .i64 0, .int .i64 0, .int .i64 0, .int .i64 0, .int .i64 0, .int .i64 0, .int .i64 0, .int .i64 0, .int .i64 0, .int .i64 0, .int .i64 0, .int .i64 0, .int .i64 0, .slice none 0 0, .int .i64 0]).loadVar Try.underlying34 rfl sizeEnt)) rfl ?_
      refine ⟨_, by rw [EP.out, T.out]; rfl, fun _ => rfl, fun h => ?_, rfl, by simp [Value.oneCell'], setRow_below db (Nat.le_refl _)⟩
      rw [EP.out, T.out] at h
      cases h
    · have T := hid (show endT n A1 0 = (0, 0) by unfold endT; rw [if_pos rfl, if_neg hA])
      have tA : decide (A1 < (n : Int)) = false := by simp; omega
      have LD := BV.out.loadAt Try.underlying34 rfl hsz
      have BQ := QR.out
      unfold Blk at BQ
      go_wp2_with (first | refine wpList_load_at 34 rfl (.tmp 8) rfl _ _ rfl cs LD ?_ | refine wpList_store_row rfl 34 (.tmp 4) (.tmp 47) rfl w.heap.size cs rfl rfl 34 _ BQ hsz (by rw [hcs]; rfl) hon ?_)
      refine bodyPost_ret (results_cell3 rfl rfl ((QR.out.row cs).loadVar Try.underlying34 rfl hsz)) rfl ?_
      refine ⟨cs, by rw [EP.out, T.out]; rfl, fun h => absurd (by rw [EP.out, T.out]) h, fun _ => (CA.out.row (by omega) _).weaken (by omega), hcs, by simpa using hon, setRow_below BL.out (Nat.le_refl _)⟩
  · have T := hid (show endT n A1 E1 = (A1, E1) by unfold endT; rw [if_neg hE])
    have tE : (E1 == 0) = false := by simpa using hE
    have tN : (E1 != 0) = true := by simpa using hE
    have HE := hid hE
    clear CA BV hE
    go_upto_region 7 with fail
    have BZ := Blk.alloc WF #[.int .i64 0, .int .i64 0, .int .i64 0, .int .i64 0, .int .i64 0, .int .i64 0, .int .i64 0, .int .i64 0, .int .i64 0, .int .i64 0, .int .i64 0, .int .i64 0, .int .i64 0, .int .i64 0, .int .i64 0, .int .i64 0, .int .i64 0, .int .i64 0, .int .i64 0, .int .i64 0, .int .i64 0, .int .i64 0, .int .i64 0, .int .i64 0, .int .i64 0, .slice none 0 0, .int .i64 0] (34)
    have RF := RD.out.below ((Below.refl WF.heap.size WF).alloc (Nat.le_refl _) (.cells #[.int .i64 0, .int .i64 0, .int .i64 0, .int .i64 0, .int .i64 0, .int .i64 0, .int .i64 0, .int .i64 0, .int .i64 0, .int .i64 0, .int .i64 0, .int .i64 0, .int .i64 0, .int .i64 0, .int .i64 0, .int .i64 0, .int .i64 0, .int .i64 0, .int .i64 0, .int .i64 0, .int .i64 0, .int .i64 0, .int .i64 0, .int .i64 0, .int .i64 0, .slice none 0 0, .int .i64 0] 34))
    have QF := QR.out.below ((Below.refl WF.heap.size WF).alloc (Nat.le_refl _) (.cells #[.int .i64 0, .int .i64 0, .int .i64 0, .int .i64 0, .int .i64 0, .int .i64 0, .int .i64 0, .int .i64 0, .int .i64 0, .int .i64 0, .int .i64 0, .int .i64 0, .int .i64 0, .int .i64 0, .int .i64 0, .int .i64 0, .int .i64 0, .int .i64 0, .int .i64 0, .int .i64 0, .int .i64 0, .int .i64 0, .int .i64 0, .int .i64 0, .int .i64 0, .slice none 0 0, .int .i64 0] 34))
    have BF := BL.out.alloc BL.out.size (.cells #[.int .i64 0, .int .i64 0, .int .i64 0, .int .i64 0, .int .i64 0, .int .i64 0, .int .i64 0, .int .i64 0, .int .i64 0, .int .i64 0, .int .i64 0, .int .i64 0, .int .i64 0, .int .i64 0, .int .i64 0, .int .i64 0, .int .i64 0, .int .i64 0, .int .i64 0, .int .i64 0, .int .i64 0, .int .i64 0, .int .i64 0, .int .i64 0, .int .i64 0, .slice none 0 0, .int .i64 0] 34)
    have nz : WF.heap.size ≠ w.heap.size := by have := QR.out.lt; omega
    generalize WF.alloc (.cells #[.int .i64 0, .int .i64 0, .int .i64 0, .int .i64 0, .int .i64 0, .int .i64 0, .int .i64 0, .int .i64 0, .int .i64 0, .int .i64 0, .int .i64 0, .int .i64 0, .int .i64 0, .int .i64 0, .int .i64 0, .int .i64 0, .int .i64 0, .int .i64 0, .int .i64 0, .int .i64 0, .int .i64 0, .int .i64 0, .int .i64 0, .int .i64 0, .int .i64 0, .slice none 0 0, .int .i64 0] 34) = WG at *
    generalize WF.heap.size = QZ at *
    have dz : Blk WG.drew QZ 34 #[.int .i64 0, .int .i64 0, .int .i64 0, .int .i64 0, .int .i64 0, .int .i64 0, .int .i64 0, .int .i64 0, .int .i64 0, .int .i64 0, .int .i64 0, .int .i64 0, .int .i64 0, .int .i64 0, .int .i64 0, .int .i64 0, .int .i64 0, .int .i64 0, .int .i64 0, .int .i64 0, .int .i64 0, .int .i64 0, .int .i64 0, .int .i64 0, .int .i64 0, .slice none 0 0, .int .i64 0] := BZ
    have da : WG.drew.cell? ⟨p, 1, none⟩ = some (.int .i64 A1) := RF.1.2.1
    have de : WG.drew.cell? ⟨p, 2, none⟩ = some (.int .i64 E1) := RF.1.2.2
    have dq : Blk WG.drew w.heap.size 34 #[.int .i64 0, .int .i64 0, .int .i64 0, .int .i64 0, .int .i64 0, .int .i64 0, .int .i64 0, .int .i64 0, .int .i64 0, .int .i64 0, .int .i64 0, .int .i64 0, .int .i64 0, .int .i64 0, .int .i64 0, .int .i64 0, .int .i64 0, .int .i64 0, .int .i64 0, .int .i64 0, .int .i64 0, .int .i64 0, .int .i64 0, .int .i64 0, .int .i64 0, .slice none 0 0, .int .i64 0] := QF
    have db : Below w.heap.size w WG.drew := BF.drew
    refine wp_region_held_drew (S := fun W => Blk W QZ 34 #[.int .i64 0, .int .i64 0, .int .i64 0, .int .i64 0, .int .i64 0, .int .i64 0, .int .i64 0, .int .i64 0, .int .i64 0, .int .i64 0, .int .i64 0, .int .i64 0, .int .i64 0, .int .i64 0, .int .i64 0, .int .i64 0, .int .i64 0, .int .i64 0, .int .i64 0, .int .i64 0, .int .i64 0, .int .i64 0, .int .i64 0, .int .i64 0, .int .i64 0, .slice none 0 0, .int .i64 0] ∧ W.cell? ⟨p, 1, none⟩ = some (.int .i64 A1) ∧ W.cell? ⟨p, 2, none⟩ = some (.int .i64 E1)) (by kernel_rfl) ⟨dz, da, de⟩ (fun hHeld => ?_)
    generalize WG.drew = WD at *
    refine wpAnyH_take (i := 0) (v := .agg #[.int .i64 0, .int .i64 0, .int .i64 0, .int .i64 0, .int .i64 0, .int .i64 0, .int .i64 0, .int .i64 0, .int .i64 0, .int .i64 0, .int .i64 0, .int .i64 0, .int .i64 0, .int .i64 0, .int .i64 0, .int .i64 0, .int .i64 0, .int .i64 0, .int .i64 0, .int .i64 0, .int .i64 0, .int .i64 0, .int .i64 0, .int .i64 0, .int .i64 0, .slice none 0 0, .int .i64 0]) rfl (by kernel_rfl) (by kernel_rfl) (by kernel_rfl) (fun _ _ _ h => h) (yieldsIf_load_mid (by rfl) 34 (.tmp 9) rfl QZ 0 rfl (#[.int .i64 0, .int .i64 0, .int .i64 0, .int .i64 0, .int .i64 0, .int .i64 0, .int .i64 0, .int .i64 0, .int .i64 0, .int .i64 0, .int .i64 0, .int .i64 0, .int .i64 0, .int .i64 0, .int .i64 0, .int .i64 0, .int .i64 0, .int .i64 0, .int .i64 0, .int .i64 0, .int .i64 0, .int .i64 0, .int .i64 0, .int .i64 0, .int .i64 0, .slice none 0 0, .int .i64 0] : Array Value).toList _ (fun W hW => hW.1.range) Try.underlying34 rfl sizeEnt) (by assumption) ?_
    (try simp only [Act.put, List.getElem_toArray, List.getElem_cons_succ, List.getElem_cons_zero, List.setIfInBounds_toArray, List.set_cons_zero, List.set_cons_succ])
    refine wpAnyH_take (i := 1) (v := .pointer (some ⟨p, 0, none⟩)) rfl (by kernel_rfl) (by kernel_rfl) (by kernel_rfl) (fun _ _ _ h => h) (Or.inl ⟨by rfl, ?_⟩) (by assumption) ?_
    · (intro w hSw; (try dsimp only at hSw); obtain ⟨hz, ha, he⟩ := hSw; go_simp)
    (try simp only [Act.put, List.getElem_toArray, List.getElem_cons_succ, List.getElem_cons_zero, List.setIfInBounds_toArray, List.set_cons_zero, List.set_cons_succ])
    refine wpAnyH_take (i := 2) (v := .pointer (some ⟨p, 0, none⟩)) rfl (by kernel_rfl) (by kernel_rfl) (by kernel_rfl) (fun _ _ _ h => h) (Or.inl ⟨by rfl, ?_⟩) (by assumption) ?_
    · (intro w hSw; (try dsimp only at hSw); obtain ⟨hz, ha, he⟩ := hSw; go_simp)
    (try simp only [Act.put, List.getElem_toArray, List.getElem_cons_succ, List.getElem_cons_zero, List.setIfInBounds_toArray, List.set_cons_zero, List.set_cons_succ])
    refine wpAnyH_take (i := 3) (v := .pointer (some ⟨p, 1, none⟩)) rfl (by kernel_rfl) (by kernel_rfl) (by kernel_rfl) (fun _ _ _ h => h) (Or.inl ⟨by rfl, ?_⟩) (by assumption) ?_
    · (intro w hSw; (try dsimp only at hSw); obtain ⟨hz, ha, he⟩ := hSw; go_simp)
    (try simp only [Act.put, List.getElem_toArray, List.getElem_cons_succ, List.getElem_cons_zero, List.setIfInBounds_toArray, List.set_cons_zero, List.set_cons_succ])
    refine wpAnyH_take (i := 4) (v := .int .i64 A1) rfl (by kernel_rfl) (by kernel_rfl) (by kernel_rfl) (fun _ _ _ h => h) (Or.inl ⟨by rfl, ?_⟩) (by assumption) ?_
    · (intro w hSw; (try dsimp only at hSw); obtain ⟨hz, ha, he⟩ := hSw; go_simp)
    (try simp only [Act.put, List.getElem_toArray, List.getElem_cons_succ, List.getElem_cons_zero, List.setIfInBounds_toArray, List.set_cons_zero, List.set_cons_succ])
    refine wpAnyH_take (i := 5) (v := .pointer (some ⟨p, 0, none⟩)) rfl (by kernel_rfl) (by kernel_rfl) (by kernel_rfl) (fun _ _ _ h => h) (Or.inl ⟨by rfl, ?_⟩) (by assumption) ?_
    · (intro w hSw; (try dsimp only at hSw); obtain ⟨hz, ha, he⟩ := hSw; go_simp)
    (try simp only [Act.put, List.getElem_toArray, List.getElem_cons_succ, List.getElem_cons_zero, List.setIfInBounds_toArray, List.set_cons_zero, List.set_cons_succ])
    refine wpAnyH_take (i := 6) (v := .pointer (some ⟨p, 0, none⟩)) rfl (by kernel_rfl) (by kernel_rfl) (by kernel_rfl) (fun _ _ _ h => h) (Or.inl ⟨by rfl, ?_⟩) (by assumption) ?_
    · (intro w hSw; (try dsimp only at hSw); obtain ⟨hz, ha, he⟩ := hSw; go_simp)
    (try simp only [Act.put, List.getElem_toArray, List.getElem_cons_succ, List.getElem_cons_zero, List.setIfInBounds_toArray, List.set_cons_zero, List.set_cons_succ])
    refine wpAnyH_take (i := 7) (v := .pointer (some ⟨p, 2, none⟩)) rfl (by kernel_rfl) (by kernel_rfl) (by kernel_rfl) (fun _ _ _ h => h) (Or.inl ⟨by rfl, ?_⟩) (by assumption) ?_
    · (intro w hSw; (try dsimp only at hSw); obtain ⟨hz, ha, he⟩ := hSw; go_simp)
    (try simp only [Act.put, List.getElem_toArray, List.getElem_cons_succ, List.getElem_cons_zero, List.setIfInBounds_toArray, List.set_cons_zero, List.set_cons_succ])
    refine wpAnyH_take (i := 8) (v := .int .i64 E1) rfl (by kernel_rfl) (by kernel_rfl) (by kernel_rfl) (fun _ _ _ h => h) (Or.inl ⟨by rfl, ?_⟩) (by assumption) ?_
    · (intro w hSw; (try dsimp only at hSw); obtain ⟨hz, ha, he⟩ := hSw; go_simp)
    (try simp only [Act.put, List.getElem_toArray, List.getElem_cons_succ, List.getElem_cons_zero, List.setIfInBounds_toArray, List.set_cons_zero, List.set_cons_succ])
    refine wpAnyH_ready (rs := [9]) (by kernel_rfl) (by simp) ?_
    refine AllReadyH.cons rfl (fun K hK => ?_) AllReadyH.nil
    refine storeRow_step rfl 34 (.tmp 4) (.tmp 38) rfl w.heap.size #[.int .i64 0, .int .i64 0, .int .i64 0, .int .i64 0, .int .i64 0, .int .i64 0, .int .i64 0, .int .i64 0, .int .i64 0, .int .i64 0, .int .i64 0, .int .i64 0, .int .i64 0, .int .i64 0, .int .i64 0, .int .i64 0, .int .i64 0, .int .i64 0, .int .i64 0, .int .i64 0, .int .i64 0, .int .i64 0, .int .i64 0, .int .i64 0, .int .i64 0, .slice none 0 0, .int .i64 0] rfl rfl 34 _ dq sizeEnt rfl (by simp [Value.oneCell']) ?_
    refine hK.out _ _ ⟨dz.other (by omega), (cell_setRow_other _ _ _ _ (by show p ≠ _; have := HP.out; omega)).trans da, (cell_setRow_other _ _ _ _ (by show p ≠ _; have := HP.out; omega)).trans de⟩ (fun hHeld => ?_)
    clear hK K
    (try simp only [Act.put, List.getElem_toArray, List.getElem_cons_succ, List.getElem_cons_zero, List.setIfInBounds_toArray, List.set_cons_zero, List.set_cons_succ])
    refine wpAnyH_take (i := 10) (v := .int .i64 A1) rfl (by kernel_rfl) (by kernel_rfl) (by kernel_rfl) (fun _ _ _ h => h) (Or.inl ⟨by rfl, ?_⟩) (by assumption) ?_
    · (intro w hSw; (try dsimp only at hSw); obtain ⟨hz, ha, he⟩ := hSw; go_simp)
    (try simp only [Act.put, List.getElem_toArray, List.getElem_cons_succ, List.getElem_cons_zero, List.setIfInBounds_toArray, List.set_cons_zero, List.set_cons_succ])
    refine wpAnyH_take (i := 11) (v := .int .i64 E1) rfl (by kernel_rfl) (by kernel_rfl) (by kernel_rfl) (fun _ _ _ h => h) (Or.inl ⟨by rfl, ?_⟩) (by assumption) ?_
    · (intro w hSw; (try dsimp only at hSw); obtain ⟨hz, ha, he⟩ := hSw; go_simp)
    (try simp only [Act.put, List.getElem_toArray, List.getElem_cons_succ, List.getElem_cons_zero, List.setIfInBounds_toArray, List.set_cons_zero, List.set_cons_succ])
    refine wpAnyH_done (by kernel_rfl) ?_ _
    clear hHeld
    go_wp2_with fail
    refine bodyPost_ret (results_cell3 rfl rfl ((dq.row #[.int .i64 0, .int .i64 0, .int .i64 0, .int .i64 0, .int .i64 0, .int .i64 0, .int .i64 0, .int .i64 0, .int .i64 0, .int .i64 0, .int .i64 0, .int .i64 0, .int .i64 0, .int .i64 0, .int .i64 0, .int .i64 0, .int .i64 0, .int .i64 0, .int .i64 0, .int .i64 0, .int .i64 0, .int .i64 0, .int .i64 0, .int .i64 0, .int .i64 0, .slice none 0 0, .int .i64 0]).loadVar Try.underlying34 rfl sizeEnt)) rfl ?_
    refine ⟨_, by rw [EP.out, T.out]; rfl, fun _ => rfl, fun h => ?_, rfl, by simp [Value.oneCell'], setRow_below db (Nat.le_refl _)⟩
    rw [EP.out, T.out] at h
    exact absurd h HE.out

set_option maxRecDepth 100000 in
set_option maxHeartbeats 8000000 in
theorem decentry_any (a : Option Addr) (n c : Nat) (l : List Int) (w : World) (hl : HoldsB w a n c l) :
    Calls Try.prog 22 #[.slice a n c] w fun e w' => ∃ cs, e = .returned (.tuple #[.agg cs, .int .i64 (endT n (enE l 0 0).2.1 (enE l 0 0).2.2).1, .int .i64 (endT n (enE l 0 0).2.1 (enE l 0 0).2.2).2]) ∧ ((endT n (enE l 0 0).2.1 (enE l 0 0).2.2).2 ≠ 0 → cs = #[.int .i64 0, .int .i64 0, .int .i64 0, .int .i64 0, .int .i64 0, .int .i64 0, .int .i64 0, .int .i64 0, .int .i64 0, .int .i64 0, .int .i64 0, .int .i64 0, .int .i64 0, .int .i64 0, .int .i64 0, .int .i64 0, .int .i64 0, .int .i64 0, .int .i64 0, .int .i64 0, .int .i64 0, .int .i64 0, .int .i64 0, .int .i64 0, .int .i64 0, .slice none 0 0, .int .i64 0]) ∧ ((endT n (enE l 0 0).2.1 (enE l 0 0).2.2).2 = 0 → EnO l 0 0 w.heap.size w' cs) ∧ cs.size = 27 ∧ cs.all (·.oneCell') = true ∧ Below w.heap.size w w' := by
  go_enter Try.func22, Try.ntmps22
  go_upto_region 1 with fail
  have B0 := (Below.refl w.heap.size w).alloc (Nat.le_refl _) (.cells #[.int .i64 0, .int .i64 0, .int .i64 0, .int .i64 0, .int .i64 0, .int .i64 0, .int .i64 0, .int .i64 0, .int .i64 0, .int .i64 0, .int .i64 0, .int .i64 0, .int .i64 0, .int .i64 0, .int .i64 0, .int .i64 0, .int .i64 0, .int .i64 0, .int .i64 0, .int .i64 0, .int .i64 0, .int .i64 0, .int .i64 0, .int .i64 0, .int .i64 0, .slice none 0 0, .int .i64 0] 34)
  have L0 := hl.below B0
  have Q0 := hid (Blk.alloc w #[.int .i64 0, .int .i64 0, .int .i64 0, .int .i64 0, .int .i64 0, .int .i64 0, .int .i64 0, .int .i64 0, .int .i64 0, .int .i64 0, .int .i64 0, .int .i64 0, .int .i64 0, .int .i64 0, .int .i64 0, .int .i64 0, .int .i64 0, .int .i64 0, .int .i64 0, .int .i64 0, .int .i64 0, .int .i64 0, .int .i64 0, .int .i64 0, .int .i64 0, .slice none 0 0, .int .i64 0] (34))
  have z0 : w.heap.size < (w.alloc (.cells #[.int .i64 0, .int .i64 0, .int .i64 0, .int .i64 0, .int .i64 0, .int .i64 0, .int .i64 0, .int .i64 0, .int .i64 0, .int .i64 0, .int .i64 0, .int .i64 0, .int .i64 0, .int .i64 0, .int .i64 0, .int .i64 0, .int .i64 0, .int .i64 0, .int .i64 0, .int .i64 0, .int .i64 0, .int .i64 0, .int .i64 0, .int .i64 0, .int .i64 0, .slice none 0 0, .int .i64 0] 34)).heap.size := by simp
  clear hl
  generalize (w.alloc (.cells #[.int .i64 0, .int .i64 0, .int .i64 0, .int .i64 0, .int .i64 0, .int .i64 0, .int .i64 0, .int .i64 0, .int .i64 0, .int .i64 0, .int .i64 0, .int .i64 0, .int .i64 0, .int .i64 0, .int .i64 0, .int .i64 0, .int .i64 0, .int .i64 0, .int .i64 0, .int .i64 0, .int .i64 0, .int .i64 0, .int .i64 0, .int .i64 0, .int .i64 0, .slice none 0 0, .int .i64 0] 34)) = W0 at *
  have C1 := hid (decE_any a n c l W0 L0)
  generalize hpo : (enE l 0 0).2 = PS at *
  have HPO := hid hpo
  generalize hen : endT n PS.1 PS.2 = EN at *
  obtain ⟨rp, re⟩ := EN
  have HEN := hid hen
  clear hen L0 hpo
  go_wp2_with fail
  with_reducible refine C1.out.mono ?_
  rintro e W1 ⟨cs, rfl, hzz, hval, hcs, hon, b1⟩
  have hsz : (Try.prog.info? 34).map (·.size) = some cs.size := by rw [hcs]; exact sizeEnt
  have Q1 := Q0.out.below b1
  have B1 := hid (B0.trans (b1.mono (by omega)))
  have HV := hid hval
  have HZ := hid hzz
  have HO := hid hon
  clear C1 B0 Q0 b1 hval hzz hon
  have BQ := Q1
  unfold Blk at BQ
  go_wp2_with (refine wpList_store_row rfl 34 (.tmp 2) (.tmp 7) rfl w.heap.size cs rfl rfl 34 _ BQ hsz (by rw [hcs]; rfl) HO.out ?_)
  refine bodyPost_ret (results_cell3 rfl rfl ((Q1.row cs).loadVar Try.underlying34 rfl hsz)) rfl ?_
  rw [HPO.out, HEN.out]
  exact ⟨cs, rfl, HZ.out, fun h => ((HV.out h).row z0 cs).weaken (by omega), hcs, HO.out, setRow_below B1.out (Nat.le_refl _)⟩
end Go.Proofs.Ytkjglpgjflkmbaa
