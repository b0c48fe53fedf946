/-
  Contracts of command: the reader's list of numbers, gathered.
-/
import Derived.Test.YtkjglpgjflkmbaaCV
import Derived.Test.YtkjglpgjflkmbaaCT
import Derived.Stop.RegionWithIn
import Derived.Shelf.Abstract
import Derived.Shelf.RegionOpen
import Derived.TacticsInMore
import Derived.LoopNIn
import Derived.LoopIn
import Derived.Maps.AppendAt
namespace Go.Proofs.Ytkjglpgjflkmbaa
open Go.RowKit Go.Deep Go.Maps
set_option linter.unusedVariables false
set_option linter.unusedSimpArgs false
attribute [local go_sem] Oper.semAt_some
attribute [local go_sem ↓] appF_eq

theorem RK.own {p : Nat} {w A B : World} {row : Option Nat} {S : Nat} (h : RK p w A) (hg : A.grownBy B row) (hr : ∀ r, row = some r → S ≤ r) (hS : w.heap.size ≤ S) : RK p w B :=
  ⟨hg.os.trans h.os, hg.tape.trans h.tape, hg.output.trans h.output, Nat.le_trans h.size hg.size, fun b hb h1 h2 => (hg.block b (Nat.lt_of_lt_of_le hb h.size) (fun e => by have := hr b e.symm; omega)).trans (h.block b hb h1 h2), fun _ e => by cases e⟩
theorem RdC.own {p : Nat} {A B : World} {b : Value} {X E : Int} {row : Option Nat} (h : RdC A p b X E) (hg : A.grownBy B row) (hr : ∀ r, row = some r → ∃ o : Obj, A.heap[r]? = some o ∧ o.isCells = false) : RdC B p b X E := by
  obtain ⟨⟨h1, h2, h3⟩, f1, f2, f3⟩ := h
  exact ⟨⟨cell_kept h1 hg hr, cell_kept h2 hg hr, cell_kept h3 hg hr⟩, (frozen_kept h1 hg hr).trans f1, (frozen_kept h2 hg hr).trans f2, (frozen_kept h3 hg hr).trans f3⟩
theorem RdC.same {p : Nat} {A B : World} {b : Value} {X E : Int} (h : RdC A p b X E) (hb : B.heap[p]? = A.heap[p]?) : RdC B p b X E := by
  obtain ⟨⟨h1, h2, h3⟩, f1, f2, f3⟩ := h
  exact ⟨⟨(World.cell?_of_block (w := A) hb).trans h1, (World.cell?_of_block (w := A) hb).trans h2, (World.cell?_of_block (w := A) hb).trans h3⟩, (World.frozen?_of_block (w := A) hb).trans f1, (World.frozen?_of_block (w := A) hb).trans f2, (World.frozen?_of_block (w := A) hb).trans f3⟩
theorem OwnE.rk {α : Type} {e : TypeId} {k p : Nat} {enc : α → List Value} {base n : Nat} {l : List α} {v : Value} {w w' : World} (h : OwnE e k enc base w v n l) (T : RK p w w') (h1 : p < base) : OwnE e k enc base w' v n l := by
  obtain ⟨h0, h3, h4⟩ := h
  refine ⟨h0, h3, ?_⟩
  rcases h4 with h4 | ⟨g, cap, cur, hv, hg, hh, q⟩
  · exact .inl h4
  · exact .inr ⟨g, cap, cur, hv, hg, (T.block g (Array.getElem?_eq_some_iff.1 hh).1 (by omega) (by intro e; cases e)).trans hh, q⟩
theorem RK.bel {p : Nat} {A B C : World} (h : RK p A B) (hb : Below B.heap.size B C) : RK p A C := h.trans (WK.of_below hb)

/-- What stands while the things of a list are gathered: k of them. -/
structure GaI (ib S p : Nat) (a : Option Addr) (n c : Nat) (l : List Int) (A E : Int) (w : World) (k : Nat) (pl : Int × Int) (W : World) : Prop where
  row : ∃ v, W.cell? ⟨ib, 0, none⟩ = some v ∧ W.frozen? ⟨ib, 0, none⟩ = false ∧ OwnN S W v k (liT (tkI l) l A E k)
  cg : W.cell? ⟨ib + 1, 0, none⟩ = some (.pointer (some ⟨p, 0, none⟩))
  cn : W.cell? ⟨ib + 2, 0, none⟩ = some (.func (.func 86) #[.pointer (some ⟨p, 0, none⟩)] #[])
  rd : RdC W p (.slice a n c) pl.1 pl.2
  rk : RK p w W
  sz : S ≤ W.heap.size
theorem GaI.own {ib S p k : Nat} {a : Option Addr} {n c : Nat} {l : List Int} {X E : Int} {pl : Int × Int} {w A B : World} {row : Option Nat} (h : GaI ib S p a n c l X E w k pl A) (hg : A.grownBy B row) (hr : ∀ r, row = some r → S ≤ r ∧ ∃ o : Obj, A.heap[r]? = some o ∧ o.isCells = false) (hS : w.heap.size ≤ S) : GaI ib S p a n c l X E w k pl B := by
  have hr' : ∀ r, row = some r → ∃ o : Obj, A.heap[r]? = some o ∧ o.isCells = false := fun r e => (hr r e).2
  obtain ⟨v, h1, h2, h3⟩ := h.row
  exact ⟨⟨v, cell_kept h1 hg hr', (frozen_kept h1 hg hr').trans h2, h3.own hg hr'⟩, cell_kept h.cg hg hr', cell_kept h.cn hg hr', h.rd.own hg hr', h.rk.own hg (fun r e => (hr r e).1) hS, Nat.le_trans h.sz hg.size⟩
theorem GaI.turn {ib S p k : Nat} {a : Option Addr} {n c : Nat} {l : List Int} {X E : Int} {pl pl' : Int × Int} {w A B : World} (h : GaI ib S p a n c l X E w k pl A) (T : RK p A B) (G : RdC B p (.slice a n c) pl'.1 pl'.2) (h1 : p < ib) (hi : ib ≤ S) : GaI ib S p a n c l X E w k pl' B := by
  obtain ⟨v, h3, h4, h5⟩ := h.row
  exact ⟨⟨v, T.keep h3 (by show ib ≠ p; omega), (T.froz h3 (by show ib ≠ p; omega)).trans h4, h5.rk T (by omega)⟩, T.keep h.cg (by show ib + 1 ≠ p; omega), T.keep h.cn (by show ib + 2 ≠ p; omega), G, h.rk.trans T, Nat.le_trans h.sz T.size⟩

set_option maxRecDepth 100000 in
set_option maxHeartbeats 4000000 in
theorem listI_in (p : Nat) (a : Option Addr) (n c : Nat) (l : List Int) (A E : Int) (w : World) (h : RdC w p (.slice a n c) A E) (hl : HoldsB w a n c l) (h0 : 0 ≤ A) (h1 : A ≤ n) (hne : ∀ b o, a = some ⟨b, o, none⟩ → 0 < n → b ≠ p) :
    CallsIn Fence.wide 5 Try.prog 90 #[.pointer (some ⟨p, 0, none⟩), .func (.func 86) #[.pointer (some ⟨p, 0, none⟩)] #[]] w fun e w' => ∃ v, e = .returned v ∧ OwnN w.heap.size w' v (liC (tkI l) l A E) (liL (tkI l) l A E) ∧ RdC w' p (.slice a n c) (liF (tkI l) l A E).1 (liF (tkI l) l A E).2 ∧ RK p w w' := by
  obtain ⟨i0, hi, hz0, hz1, hz2⟩ := info_parts infoN
  have HR := hid h
  have HL := hid hl
  have plt := h.lt
  have hlen := hl.1
  have hnm := hl.2.1
  have hbb := hl.2.2.2.2.1
  have LC := (liC_le (tkI l) l A E hbb).2
  clear h hl
  refine callsIn_of_wp_marks Try.func90 rfl trivial ?_ rfl
  simp only [Try.ntmps90, List.size_toArray, List.length_cons, List.length_nil, Nat.reduceAdd, Nat.reduceSub, Array.replicate_succ, Array.replicate_zero, List.push_toArray, List.append_toArray, List.nil_append, List.cons_append]
  gi_wp2_with fail
  refine ⟨trivial, ?_⟩
  refine (callsIn_wide.2 (elemsI_mk p _)).mono ?_
  rintro e w' ⟨rfl, t1, t2, rfl⟩
  gi_wp2_with fail
  have hsz : (((w.alloc (.cells #[.slice none 0 0] 28)).alloc (.cells #[.pointer (some ⟨p, 0, none⟩)] t1)).alloc (.cells #[.func (.func 86) #[.pointer (some ⟨p, 0, none⟩)] #[]] t2)).heap.size = w.heap.size + 3 := by simp
  have hB0 : Below w.heap.size w (((w.alloc (.cells #[.slice none 0 0] 28)).alloc (.cells #[.pointer (some ⟨p, 0, none⟩)] t1)).alloc (.cells #[.func (.func 86) #[.pointer (some ⟨p, 0, none⟩)] #[]] t2)) := (by repeat (first | exact Below.refl _ _ | assumption | refine Below.alloc ?_ (by simp <;> omega) _ | refine Below.setCell ?_ (by simp <;> omega) _ | refine Below.drew ?_ | refine below_drewN ?_ _))
  have e0 : (((w.alloc (.cells #[.slice none 0 0] 28)).alloc (.cells #[.pointer (some ⟨p, 0, none⟩)] t1)).alloc (.cells #[.func (.func 86) #[.pointer (some ⟨p, 0, none⟩)] #[]] t2)).cell? ⟨w.heap.size, 0, none⟩ = some (.slice none 0 0) := by simp [go_sem]
  have g0 : (((w.alloc (.cells #[.slice none 0 0] 28)).alloc (.cells #[.pointer (some ⟨p, 0, none⟩)] t1)).alloc (.cells #[.func (.func 86) #[.pointer (some ⟨p, 0, none⟩)] #[]] t2)).frozen? ⟨w.heap.size, 0, none⟩ = false := by simp [go_sem]
  have e1 : (((w.alloc (.cells #[.slice none 0 0] 28)).alloc (.cells #[.pointer (some ⟨p, 0, none⟩)] t1)).alloc (.cells #[.func (.func 86) #[.pointer (some ⟨p, 0, none⟩)] #[]] t2)).cell? ⟨w.heap.size + 1, 0, none⟩ = some (.pointer (some ⟨p, 0, none⟩)) := by simp [go_sem]
  have e2 : (((w.alloc (.cells #[.slice none 0 0] 28)).alloc (.cells #[.pointer (some ⟨p, 0, none⟩)] t1)).alloc (.cells #[.func (.func 86) #[.pointer (some ⟨p, 0, none⟩)] #[]] t2)).cell? ⟨w.heap.size + 2, 0, none⟩ = some (.func (.func 86) #[.pointer (some ⟨p, 0, none⟩)] #[]) := by simp [go_sem]
  generalize hW0 : (((w.alloc (.cells #[.slice none 0 0] 28)).alloc (.cells #[.pointer (some ⟨p, 0, none⟩)] t1)).alloc (.cells #[.func (.func 86) #[.pointer (some ⟨p, 0, none⟩)] #[]] t2)) = W0 at *
  have A0 : GaI w.heap.size (w.heap.size + 3) p a n c l A E w 0 (lsP (tkI l) l A E 0) W0 := ⟨⟨_, e0, g0, OwnE.nil _ _ _ _ _⟩, e1, e2, HR.out.below hB0, WK.of_below hB0, by omega⟩
  refine wpIn_rangeFunc_x rfl (by omega) (gf := 124) (lb := #[.pointer (some ⟨w.heap.size + 1, 0, none⟩), .pointer (some ⟨w.heap.size + 1 + 1, 0, none⟩)]) rfl trivial (enters_of Try.func124 (by kernel_rfl) rfl)
    (elemsI_turns 4 (by omega) p (w.heap.size + 1) (w.heap.size + 1 + 1) a n c l A E W0 h0 h1 hlen hnm hbb hne (by omega) (by omega)) rfl
    (fun k W => GaI w.heap.size (w.heap.size + 3) p a n c l A E w k (lsP (tkI l) l A E k) W) (fun k x W => x = .int .i64 (liV (tkI l) l A E k) ∧ GaI w.heap.size (w.heap.size + 3) p a n c l A E w k (lsP (tkI l) l A E (k + 1)) W) (fun W => GaI w.heap.size (w.heap.size + 3) p a n c l A E w (liC (tkI l) l A E) (liF (tkI l) l A E) W)
    (fun k A B row hs hgr hr => hs.own hgr (fun r' e => by have := hr r' e; rw [hsz] at this; exact this) (by omega))
    (fun x k A B row hs hgr hr => ⟨hs.1, hs.2.own hgr (fun r' e => by have := hr r' e; rw [hsz] at this; exact this) (by omega)⟩)
    (fun k A B row hs hgr hr => hs.own hgr (fun r' e => by have := hr r' e; rw [hsz] at this; exact this) (by omega))
    A0 (fun k A hs => ⟨hs.cg, hs.cn, hs.rd, hs.rk.holds HL.out hne⟩)
    (fun k x A B hs hk hst => ⟨hst.1, hs.turn hst.2.2 hst.2.1 plt (by omega)⟩)
    (fun A B hs hst => hs.turn hst.2 hst.1 plt (by omega))
    (fun k x A B i o hs hst hi ho hc => (hst.2.2.block i (Array.getElem?_eq_some_iff.1 ho).1 (by omega) (by intro e; cases e)).trans ho)
    (fun A B i o hs hst hi ho hc => (hst.2.block i (Array.getElem?_eq_some_iff.1 ho).1 (by omega) (by intro e; cases e)).trans ho)
    ?a1 ?assign ?body ?done
  case assign =>
    intro lp k x W K hK
    gi_wp2
    exact hK
  case body =>
    intro lp k x W hI hk
    obtain ⟨rfl, ⟨v, u1, u2, hrow⟩, uc, un, ur, uk, us⟩ := hI
    have LV := hid (liT_succ (tkI l) l A E k)
    have LN := hid (liT_len (tkI l) l A E k)
    generalize liV (tkI l) l A E k = xv at *
    obtain ⟨v', w1, hrun, hown', hgr, hnil, hplace⟩ := run_append_own_at (P := Try.prog) (W.alloc (.cells #[.int .i64 xv] 3)) (w.heap.size + 3) 28 28 3 i0 (.int .i64 0) 1 8 Try.underlying28 hi hz0 hz1 hz2 rfl (by decide) v k _ (hrow.2.alloc _) ⟨W.heap.size, 0, none⟩ 1 1 [.int .i64 xv] rfl (by
      intro j u hj
      match j, hj with
      | 0, hj => simp at hj; subst hj; simp [Addr.add, go_sem]) (by simp [Value.oneCell']) (by unfold maxLen; omega) (by omega) (by simp; omega)
    obtain ⟨g', cap', rfl⟩ := ownsRow_succ hown'
    rw [appF_eq] at hrun
    have hrowlt : ∀ g, v.ownBlock = some g → w.heap.size + 3 ≤ g := fun g hg => (hrow.lt g hg).1
    have hge : w.heap.size + 3 ≤ g' := (hown'.lt g' rfl).1
    have hblk : ∀ b, b < w.heap.size + 3 → w1.heap[b]? = W.heap[b]? := fun b hb => by
      rw [hgr.block b (by simp; omega) (fun e => by have := hrowlt _ e.symm; omega)]
      exact Below.heap_alloc _ _ _ (by show b < W.heap.size; omega)
    have x1 : w1.cell? ⟨w.heap.size, 0, none⟩ = some v := (World.cell?_of_block (w := W) (hblk _ (by simp))).trans u1
    have x2 : w1.frozen? ⟨w.heap.size, 0, none⟩ = false := (World.frozen?_of_block (w := W) (hblk _ (by simp))).trans u2
    have hKO : Hid (KeepsOthers W w1) := by
      have h1 : KeepsOthers W (W.alloc (.cells #[.int .i64 xv] 3)) := ⟨by simp, fun k o hk _ => (Below.heap_alloc W _ _ (Array.getElem?_eq_some_iff.1 hk).1).trans hk⟩
      exact h1.trans (keepsOthers_grown hgr (ownsRow_cells (hrow.2.alloc _)))
    have hOb : Hid (∀ b, b < w.heap.size + 3 → b ≠ w.heap.size → (w1.setCell ⟨w.heap.size, 0, none⟩ (.slice (some ⟨g', 0, none⟩) (k + 1) cap')).heap[b]? = W.heap[b]?) := fun b hb hne => (Below.heap_setCell _ _ _ _ hne).trans (hblk b hb)
    have HO : Hid (OwnN (w.heap.size + 3) (w1.setCell ⟨w.heap.size, 0, none⟩ (.slice (some ⟨g', 0, none⟩) (k + 1) cap')) (.slice (some ⟨g', 0, none⟩) (k + 1) cap') (k + 1) (liT (tkI l) l A E (k + 1))) := by
      refine ⟨by rw [liT_len], ?_⟩
      have h1 : (liT (tkI l) l A E (k + 1)).flatMap encN = (liT (tkI l) l A E k).flatMap encN ++ [.int .i64 xv] := by rw [LV.out, List.flatMap_append]; rfl
      rw [h1]
      exact hown'.kept (grownBy_setCell' w1 w.heap.size _) (.inr (by simp [Value.ownBlock]; omega))
    have HG1 : Hid (GaI w.heap.size (w.heap.size + 3) p a n c l A E w (k + 1) (lsP (tkI l) l A E (k + 1)) (w1.setCell ⟨w.heap.size, 0, none⟩ (.slice (some ⟨g', 0, none⟩) (k + 1) cap'))) := by
      have hs1 : W.heap.size ≤ w1.heap.size := hKO.out.size
      refine ⟨⟨_, World.cell?_setCell_same' _ _ _ (by rw [x1]; rfl), by rw [World.frozen?_setCell]; exact x2, HO.out⟩, ?_, ?_, ?_, ?_, ?_⟩
      · exact (World.cell?_of_block (w := W) (hOb.out _ (by simp) (by simp))).trans uc
      · exact (World.cell?_of_block (w := W) (hOb.out _ (by simp) (by simp))).trans un
      · exact ur.same (hOb.out _ (by omega) (by omega))
      · refine ⟨?_, ?_, ?_, ?_, fun b hb h1 h2 => (hOb.out b (by omega) (by omega)).trans (uk.block b hb h1 h2), fun _ e => by cases e⟩
        · exact hgr.os.trans uk.os
        · exact hgr.tape.trans uk.tape
        · exact hgr.output.trans uk.output
        · have := uk.size; simp [World.setCell]; omega
      · simp [World.setCell]; omega
    have e1a := keepc ((Below.refl _ W).alloc (Nat.le_refl _) (.cells #[.int .i64 xv] 3)) u1
    clear hgr hown' hrow hnil hblk hrowlt hplace uc un ur uk us hOb HO
    gi_wp2
    exact ⟨(hKO.out.trans (KeepsOthers.setCell _ _ _)).from _, HG1.out⟩
  case done =>
    rintro D W hD hI hK
    obtain ⟨⟨v, u1, u2, hrow⟩, uc, un, ur, uk, us⟩ := hI
    gi_wp2
    refine ⟨by simp, .inl ⟨_, _, rfl, run_takeDeferred hK, ?_⟩⟩
    have hgO := grownBy_putObj' W D (.deferred none)
    have hrO : ∀ r, some D = some r → ∃ o : Obj, W.heap[r]? = some o ∧ o.isCells = false := fun r e => by cases e; exact ⟨_, hK, rfl⟩
    refine ⟨_, results_tmp rfl _ _ _, v, rfl, ?_, ur.own hgO hrO, uk.own (S := w.heap.size + 3) hgO (fun r e => by cases e; omega) (by omega)⟩
    have := (hrow.own hgO hrO).weaken (b' := w.heap.size) (by omega)
    rwa [liT_all] at this

theorem listI_any (p : Nat) (a : Option Addr) (n c : Nat) (l : List Int) (A E : Int) (w : World) (h : RdC w p (.slice a n c) A E) (hl : HoldsB w a n c l) (h0 : 0 ≤ A) (h1 : A ≤ n) (hne : ∀ b o, a = some ⟨b, o, none⟩ → 0 < n → b ≠ p) :
    Calls Try.prog 90 #[.pointer (some ⟨p, 0, none⟩), .func (.func 86) #[.pointer (some ⟨p, 0, none⟩)] #[]] w fun e w' => ∃ v, e = .returned v ∧ OwnN w.heap.size w' v (liC (tkI l) l A E) (liL (tkI l) l A E) ∧ RdC w' p (.slice a n c) (liF (tkI l) l A E).1 (liF (tkI l) l A E).2 ∧ RK p w w' := callsIn_wide.1 (listI_in p a n c l A E w h hl h0 h1 hne)

end Go.Proofs.Ytkjglpgjflkmbaa
