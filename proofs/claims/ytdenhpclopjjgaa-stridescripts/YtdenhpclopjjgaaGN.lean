/-
  Contracts of stride: Run, Pick.
-/
import Derived.Test.YtdenhpclopjjgaaGM
import Derived.Maps.AppendAt
namespace Go.Proofs.Ytdenhpclopjjgaa
open Go.RowKit Go.Deep Go.Maps
set_option linter.unusedVariables false
set_option linter.unusedSimpArgs false
attribute [local go_sem] Oper.semAt_some
attribute [local go_sem ↓] appF_eq

theorem OwnE.tn {α : Type} {e : TypeId} {k gb r : Nat} {enc : α → List Value} {base n : Nat} {l : List α} {v : Value} {w w' : World} (h : OwnE e k enc base w v n l) (T : Tn gb r w w') (h1 : gb < base) (h2 : r < base) : OwnE e k enc base w' v n l := by
  obtain ⟨h0, h3, h4⟩ := h
  refine ⟨h0, h3, ?_⟩
  rcases h4 with h4 | ⟨g, cap, cur, hv, hg, hh, q⟩
  · exact .inl h4
  · exact .inr ⟨g, cap, cur, hv, hg, (T.oth g (Array.getElem?_eq_some_iff.1 hh).1 (by omega) (by omega)).trans hh, q⟩
theorem cells_row {A B : World} {row : Option Nat} (hg : A.grownBy B row) (hr : ∀ r, row = some r → ∃ o : Obj, A.heap[r]? = some o ∧ o.isCells = false) {k : Nat} {o : Obj} (hk : A.heap[k]? = some o) (ho : o.isCells = true) : B.heap[k]? = A.heap[k]? := by
  refine hg.block k (Array.getElem?_eq_some_iff.1 hk).1 (fun e => ?_)
  obtain ⟨o', h1, h2⟩ := hr k e.symm
  rw [hk] at h1; cases h1
  rw [ho] at h2; cases h2
theorem Grp.own {A B : World} {row : Option Nat} {gb r : Nat} {l : List Cl} (h : Grp A gb r l) (hg : A.grownBy B row) (hr : ∀ r, row = some r → ∃ o : Obj, A.heap[r]? = some o ∧ o.isCells = false) : Grp B gb r l := by
  have h' := h
  obtain ⟨a, cap, h1, h2⟩ := h
  refine h'.same (cells_row hg hr h1 rfl) ?_
  rcases h2 with ⟨_, _, _, rfl⟩ | ⟨_, _, h2⟩
  · exact cells_row hg hr h1 rfl
  · obtain ⟨cur, h3, _⟩ := h2.hp
    exact cells_row hg hr h3 rfl
theorem Tn.own {A B w : World} {row : Option Nat} {gb r S : Nat} (h : Tn gb r w A) (hg : A.grownBy B row) (hr : ∀ r, row = some r → S ≤ r ∧ ∃ o : Obj, A.heap[r]? = some o ∧ o.isCells = false) (hS : w.heap.size ≤ S) : Tn gb r w B :=
  ⟨h.bel.trans ⟨hg.os, hg.tape, hg.output, hg.size, fun k hk => by omega⟩, fun k hk h1 h2 => (hg.block k (Nat.lt_of_lt_of_le hk h.size) (fun e => by have := (hr k e.symm).1; omega)).trans (h.oth k hk h1 h2)⟩

/-- What stands while the Ids are gathered: k Ids, the group at m. -/
structure Gath (ib S N gb r : Nat) (l : List Cl) (w : World) (k : Nat) (m : List Cl) (W : World) : Prop where
  ids : ∃ v, W.cell? ⟨ib, 0, none⟩ = some v ∧ W.frozen? ⟨ib, 0, none⟩ = false ∧ OwnN S W v k (pids l k)
  cg : W.cell? ⟨ib + 1, 0, none⟩ = some (gp gb)
  cn : W.cell? ⟨ib + 2, 0, none⟩ = some (.int .i64 (N : Int))
  grp : Grp W gb r m
  tn : Tn gb r w W
  sz : S ≤ W.heap.size
theorem Gath.own {ib S N gb r k : Nat} {l m : List Cl} {w A B : World} {row : Option Nat} (h : Gath ib S N gb r l w k m A) (hg : A.grownBy B row) (hr : ∀ r, row = some r → S ≤ r ∧ ∃ o : Obj, A.heap[r]? = some o ∧ o.isCells = false) (hS : w.heap.size ≤ S) : Gath ib S N gb r l w k m B := by
  have hr' : ∀ r, row = some r → ∃ o : Obj, A.heap[r]? = some o ∧ o.isCells = false := fun r e => (hr r e).2
  obtain ⟨v, h1, h2, h3⟩ := h.ids
  exact ⟨⟨v, cell_kept h1 hg hr', (frozen_kept h1 hg hr').trans h2, h3.own hg hr'⟩, cell_kept h.cg hg hr', cell_kept h.cn hg hr', h.grp.own hg hr', h.tn.own hg hr hS, Nat.le_trans h.sz hg.size⟩
theorem Gath.turn {ib S N gb r k : Nat} {l m m' : List Cl} {w A B : World} (h : Gath ib S N gb r l w k m A) (T : Tn gb r A B) (G : Grp B gb r m') (h1 : gb < ib) (h2 : r < ib) (hi : ib ≤ S) : Gath ib S N gb r l w k m' B := by
  obtain ⟨v, h3, h4, h5⟩ := h.ids
  have hlt : ib < A.heap.size := cell_lt h3
  exact ⟨⟨v, T.cell h3 (by omega) (by omega), (T.frozen hlt (by omega) (by omega)).trans h4, h5.tn T (by omega) (by omega)⟩, T.cell h.cg (by omega) (by omega), T.cell h.cn (by omega) (by omega), G, h.tn.trans T (.inl rfl), Nat.le_trans h.sz T.size⟩

set_option maxRecDepth 100000 in
set_option maxHeartbeats 4000000 in
theorem run_in (gb r N : Nat) (l : List Cl) (w : World) (h : Grp w gb r l) (hg : Gr l) (hN : N ≤ 100000) (hp : 0 < N → 0 < l.length) :
    CallsIn Fence.wide 5 Try.prog 15 #[gp gb, .int .i64 (N : Int)] w fun e w' => ∃ v, e = .returned (.tuple #[v, .int .i64 0]) ∧ OwnN w.heap.size w' v N (pids l N) ∧ Grp w' gb r (pks l N) ∧ Tn gb r w w' := by
  obtain ⟨i0, hi, hz0, hz1, hz2⟩ := info_parts infoN
  obtain ⟨a, cap, cc, ff, hh, _⟩ := h.box
  have HG := hid h
  obtain ⟨glt, rlt⟩ := h.lt
  have t1 : decide ((N : Int) < 0) = false := by simp
  have t2 : decide ((100000 : Int) < (N : Int)) = false := by simp; omega
  have t3 : 0 < N → ((l.length : Int) == 0) = false := fun e => by
    have := hp e
    have : ¬ (l.length : Int) = 0 := by omega
    simpa using this
  clear h hh
  refine callsIn_of_wp_marks Try.func15 rfl trivial ?_ rfl
  simp only [Try.ntmps15, List.size_toArray, List.length_cons, List.length_nil, Nat.reduceAdd, Nat.reduceSub, Array.replicate_succ, Array.replicate_zero, List.push_toArray, List.append_toArray, List.nil_append, List.cons_append]
  have hz : N = 0 ∨ 0 < N := by omega
  have HP := hid hp
  have T3 := hid t3
  clear hp t3
  rcases hz with hz | hz
  · subst hz
    gi_wp2_with fail
    refine ⟨trivial, ?_⟩
    refine (callsIn_wide.2 (quanta_mk gb 0 _)).mono ?_
    rintro e w' ⟨rfl, rfl⟩
    gi_wp2_with fail
    have hsz : (((w.alloc (.cells #[.slice none 0 0] 36)).alloc (.cells #[gp gb] 24)).alloc (.cells #[.int .i64 0] 3)).heap.size = w.heap.size + 3 := by simp
    have hB0 : Below w.heap.size w (((w.alloc (.cells #[.slice none 0 0] 36)).alloc (.cells #[gp gb] 24)).alloc (.cells #[.int .i64 0] 3)) := (by repeat (first | exact Below.refl _ _ | assumption | refine Below.alloc ?_ (by simp <;> omega) _ | refine Below.setCell ?_ (by simp <;> omega) _ | refine Below.drew ?_ | refine below_drewN ?_ _))
    have e0 : (((w.alloc (.cells #[.slice none 0 0] 36)).alloc (.cells #[gp gb] 24)).alloc (.cells #[.int .i64 0] 3)).cell? ⟨w.heap.size, 0, none⟩ = some (.slice none 0 0) := by simp [go_sem]
    have g0 : (((w.alloc (.cells #[.slice none 0 0] 36)).alloc (.cells #[gp gb] 24)).alloc (.cells #[.int .i64 0] 3)).frozen? ⟨w.heap.size, 0, none⟩ = false := by simp [go_sem]
    have e1 : (((w.alloc (.cells #[.slice none 0 0] 36)).alloc (.cells #[gp gb] 24)).alloc (.cells #[.int .i64 0] 3)).cell? ⟨w.heap.size + 1, 0, none⟩ = some (gp gb) := by simp [go_sem]
    have e2 : (((w.alloc (.cells #[.slice none 0 0] 36)).alloc (.cells #[gp gb] 24)).alloc (.cells #[.int .i64 0] 3)).cell? ⟨w.heap.size + 2, 0, none⟩ = some (.int .i64 0) := by simp [go_sem]
    generalize hW0 : (((w.alloc (.cells #[.slice none 0 0] 36)).alloc (.cells #[gp gb] 24)).alloc (.cells #[.int .i64 0] 3)) = W0 at *
    have A0 : Gath w.heap.size (w.heap.size + 3) 0 gb r l w 0 l W0 := ⟨⟨_, e0, g0, OwnE.nil _ _ _ _ _⟩, e1, e2, HG.out.below hB0, Tn.of hB0, by omega⟩
    refine wpIn_rangeFunc_turn rfl (by omega) (gf := 37) (lb := #[.pointer (some ⟨w.heap.size + 1 + 1, 0, none⟩), .pointer (some ⟨w.heap.size + 1, 0, none⟩)]) rfl trivial (enters_of Try.func37 (by kernel_rfl) rfl)
      (quanta_turns 4 (by omega) gb r (w.heap.size + 1) (w.heap.size + 1 + 1) 0 (by omega) l W0 hg HP.out) (fun _ => rfl)
      (fun k W => Gath w.heap.size (w.heap.size + 3) 0 gb r l w k (pks l k) W) (fun k W => Gath w.heap.size (w.heap.size + 3) 0 gb r l w k (pks l (k + 1)) W)
      (fun k A B row hs hgr hr => hs.own hgr (fun r' e => by have := hr r' e; rw [hsz] at this; exact this) (by omega))
      (fun k A B row hs hgr hr => hs.own hgr (fun r' e => by have := hr r' e; rw [hsz] at this; exact this) (by omega))
      A0 (fun k A hs => ⟨hs.cn, hs.cg, hs.grp, by omega, by omega⟩)
      (fun k A B hs hk hst => hs.turn hst.2 hst.1 glt rlt (by omega))
      (fun k A B i o hs hst hi ho hc => (hst.2.oth i (Array.getElem?_eq_some_iff.1 ho).1 (by omega) (by omega)).trans ho)
      ?a1 ?assign ?body ?done
    case assign =>
      intro lp k W K hK
      gi_wp2
      exact hK
    case body =>
      intro lp k W hI hk
      exact absurd hk (Nat.not_lt_zero _)
    case done =>
      rintro D W hD hI hK
      obtain ⟨⟨v, u1, u2, hrow⟩, uc, un, ug, ut, us⟩ := hI
      gi_wp2
      refine ⟨by simp, .inl ⟨_, _, rfl, run_takeDeferred hK, ?_⟩⟩
      have hgO := grownBy_putObj' W D (.deferred none)
      have hrO : ∀ r, some D = some r → ∃ o : Obj, W.heap[r]? = some o ∧ o.isCells = false := fun r e => by cases e; exact ⟨_, hK, rfl⟩
      refine ⟨_, results_tmp2 rfl _ _ _, v, rfl, (hrow.own hgO hrO).weaken (by omega), ug.own hgO hrO, ut.own hgO (fun r e => ⟨by cases e; exact hD, hrO r e⟩) (by rw [hsz]; omega)⟩
  · have t4 : decide ((0 : Int) < (N : Int)) = true := by simp; omega
    have t5 := T3.out hz
    gi_wp2_with fail
    refine ⟨trivial, ?_⟩
    refine (callsIn_wide.2 (quanta_mk gb (N : Int) _)).mono ?_
    rintro e w' ⟨rfl, rfl⟩
    gi_wp2_with fail
    have hsz : (((w.alloc (.cells #[.slice none 0 0] 36)).alloc (.cells #[gp gb] 24)).alloc (.cells #[.int .i64 (N : Int)] 3)).heap.size = w.heap.size + 3 := by simp
    have hB0 : Below w.heap.size w (((w.alloc (.cells #[.slice none 0 0] 36)).alloc (.cells #[gp gb] 24)).alloc (.cells #[.int .i64 (N : Int)] 3)) := (by repeat (first | exact Below.refl _ _ | assumption | refine Below.alloc ?_ (by simp <;> omega) _ | refine Below.setCell ?_ (by simp <;> omega) _ | refine Below.drew ?_ | refine below_drewN ?_ _))
    have e0 : (((w.alloc (.cells #[.slice none 0 0] 36)).alloc (.cells #[gp gb] 24)).alloc (.cells #[.int .i64 (N : Int)] 3)).cell? ⟨w.heap.size, 0, none⟩ = some (.slice none 0 0) := by simp [go_sem]
    have g0 : (((w.alloc (.cells #[.slice none 0 0] 36)).alloc (.cells #[gp gb] 24)).alloc (.cells #[.int .i64 (N : Int)] 3)).frozen? ⟨w.heap.size, 0, none⟩ = false := by simp [go_sem]
    have e1 : (((w.alloc (.cells #[.slice none 0 0] 36)).alloc (.cells #[gp gb] 24)).alloc (.cells #[.int .i64 (N : Int)] 3)).cell? ⟨w.heap.size + 1, 0, none⟩ = some (gp gb) := by simp [go_sem]
    have e2 : (((w.alloc (.cells #[.slice none 0 0] 36)).alloc (.cells #[gp gb] 24)).alloc (.cells #[.int .i64 (N : Int)] 3)).cell? ⟨w.heap.size + 2, 0, none⟩ = some (.int .i64 (N : Int)) := by simp [go_sem]
    generalize hW0 : (((w.alloc (.cells #[.slice none 0 0] 36)).alloc (.cells #[gp gb] 24)).alloc (.cells #[.int .i64 (N : Int)] 3)) = W0 at *
    have A0 : Gath w.heap.size (w.heap.size + 3) N gb r l w 0 l W0 := ⟨⟨_, e0, g0, OwnE.nil _ _ _ _ _⟩, e1, e2, HG.out.below hB0, Tn.of hB0, by omega⟩
    refine wpIn_rangeFunc_turn rfl (by omega) (gf := 37) (lb := #[.pointer (some ⟨w.heap.size + 1 + 1, 0, none⟩), .pointer (some ⟨w.heap.size + 1, 0, none⟩)]) rfl trivial (enters_of Try.func37 (by kernel_rfl) rfl)
      (quanta_turns 4 (by omega) gb r (w.heap.size + 1) (w.heap.size + 1 + 1) N (by omega) l W0 hg HP.out) (fun _ => rfl)
      (fun k W => Gath w.heap.size (w.heap.size + 3) N gb r l w k (pks l k) W) (fun k W => Gath w.heap.size (w.heap.size + 3) N gb r l w k (pks l (k + 1)) W)
      (fun k A B row hs hgr hr => hs.own hgr (fun r' e => by have := hr r' e; rw [hsz] at this; exact this) (by omega))
      (fun k A B row hs hgr hr => hs.own hgr (fun r' e => by have := hr r' e; rw [hsz] at this; exact this) (by omega))
      A0 (fun k A hs => ⟨hs.cn, hs.cg, hs.grp, by omega, by omega⟩)
      (fun k A B hs hk hst => hs.turn hst.2 hst.1 glt rlt (by omega))
      (fun k A B i o hs hst hi ho hc => (hst.2.oth i (Array.getElem?_eq_some_iff.1 ho).1 (by omega) (by omega)).trans ho)
      ?a2 ?assign ?body ?done
    case assign =>
      intro lp k W K hK
      gi_wp2
      exact hK
    case body =>
      intro lp k W hI hk
      obtain ⟨⟨v, u1, u2, hrow⟩, uc, un, ug, ut, us⟩ := hI
      obtain ⟨v', w1, hrun, hown', hgr, hnil, hplace⟩ := run_append_own_at (P := Try.prog) (W.alloc (.cells #[.int .i64 (pid (pks l k))] 3)) (w.heap.size + 3) 36 36 3 i0 (.int .i64 0) 1 8 Try.underlying36 hi hz0 hz1 hz2 rfl (by decide) v k _ (hrow.2.alloc _) ⟨W.heap.size, 0, none⟩ 1 1 [.int .i64 (pid (pks l k))] rfl (by
        intro j u hj
        match j, hj with
        | 0, hj => simp at hj; subst hj; simp [Addr.add, go_sem]) (by simp [Value.oneCell']) (by unfold maxLen; omega) (by omega) (by simp; omega)
      obtain ⟨g', cap', rfl⟩ := ownsRow_succ hown'
      rw [appF_eq] at hrun
      have hrowlt : ∀ g, v.ownBlock = some g → w.heap.size + 3 ≤ g := fun g hg => (hrow.lt g hg).1
      have hge : w.heap.size + 3 ≤ g' := (hown'.lt g' rfl).1
      have hblk : ∀ b, b < w.heap.size + 3 → w1.heap[b]? = W.heap[b]? := fun b hb => by
        rw [hgr.block b (by simp; omega) (fun e => by have := hrowlt _ e.symm; omega)]
        exact Below.heap_alloc _ _ _ (by show b < W.heap.size; omega)
      have x1 : w1.cell? ⟨w.heap.size, 0, none⟩ = some v := (World.cell?_of_block (w := W) (hblk _ (by simp))).trans u1
      have x2 : w1.frozen? ⟨w.heap.size, 0, none⟩ = false := (World.frozen?_of_block (w := W) (hblk _ (by simp))).trans u2
      have hKO : Hid (KeepsOthers W w1) := by
        have h1 : KeepsOthers W (W.alloc (.cells #[.int .i64 (pid (pks l k))] 3)) := ⟨by simp, fun k o hk _ => (Below.heap_alloc W _ _ (Array.getElem?_eq_some_iff.1 hk).1).trans hk⟩
        exact h1.trans (keepsOthers_grown hgr (ownsRow_cells (hrow.2.alloc _)))
      have hOb : Hid (∀ b, b < w.heap.size + 3 → b ≠ w.heap.size → (w1.setCell ⟨w.heap.size, 0, none⟩ (.slice (some ⟨g', 0, none⟩) (k + 1) cap')).heap[b]? = W.heap[b]?) := fun b hb hne => (Below.heap_setCell _ _ _ _ hne).trans (hblk b hb)
      have HO : Hid (OwnN (w.heap.size + 3) (w1.setCell ⟨w.heap.size, 0, none⟩ (.slice (some ⟨g', 0, none⟩) (k + 1) cap')) (.slice (some ⟨g', 0, none⟩) (k + 1) cap') (k + 1) (pids l (k + 1))) := by
        refine ⟨by rw [pids_len], ?_⟩
        have h1 : (pids l (k + 1)).flatMap encN = (pids l k).flatMap encN ++ [.int .i64 (pid (pks l k))] := by rw [pids_succ, List.flatMap_append]; rfl
        rw [h1]
        exact hown'.kept (grownBy_setCell' w1 w.heap.size _) (.inr (by simp [Value.ownBlock]; omega))
      have HG1 : Hid (Gath w.heap.size (w.heap.size + 3) N gb r l w (k + 1) (pks l (k + 1)) (w1.setCell ⟨w.heap.size, 0, none⟩ (.slice (some ⟨g', 0, none⟩) (k + 1) cap'))) := by
        have hs1 : W.heap.size ≤ w1.heap.size := hKO.out.size
        refine ⟨⟨_, World.cell?_setCell_same' _ _ _ (by rw [x1]; rfl), by rw [World.frozen?_setCell]; exact x2, HO.out⟩, ?_, ?_, ?_, ?_, ?_⟩
        · exact (World.cell?_of_block (w := W) (hOb.out _ (by simp) (by simp))).trans uc
        · exact (World.cell?_of_block (w := W) (hOb.out _ (by simp) (by simp))).trans un
        · exact ug.same (hOb.out _ (by omega) (by omega)) (hOb.out _ (by omega) (by omega))
        · refine ⟨⟨?_, ?_, ?_, ?_, fun k hk => by omega⟩, fun k hk h1 h2 => (hOb.out k (by omega) (by omega)).trans (ut.oth k hk h1 h2)⟩
          · exact hgr.os.trans ut.bel.os
          · exact hgr.tape.trans ut.bel.tape
          · exact hgr.output.trans ut.bel.output
          · have := ut.size; simp [World.setCell]; omega
        · simp [World.setCell]; omega
      have e1a := keepc ((Below.refl _ W).alloc (Nat.le_refl _) (.cells #[.int .i64 (pid (pks l k))] 3)) u1
      clear hgr hown' hrow hnil hblk hrowlt hplace uc un ug ut us hOb HO
      gi_wp2
      exact ⟨(hKO.out.trans (KeepsOthers.setCell _ _ _)).from _, HG1.out⟩
    case done =>
      rintro D W hD hI hK
      obtain ⟨⟨v, u1, u2, hrow⟩, uc, un, ug, ut, us⟩ := hI
      gi_wp2
      refine ⟨by simp, .inl ⟨_, _, rfl, run_takeDeferred hK, ?_⟩⟩
      have hgO := grownBy_putObj' W D (.deferred none)
      have hrO : ∀ r, some D = some r → ∃ o : Obj, W.heap[r]? = some o ∧ o.isCells = false := fun r e => by cases e; exact ⟨_, hK, rfl⟩
      refine ⟨_, results_tmp2 rfl _ _ _, v, rfl, (hrow.own hgO hrO).weaken (by omega), ug.own hgO hrO, ut.own hgO (fun r e => ⟨by cases e; exact hD, hrO r e⟩) (by rw [hsz]; omega)⟩

theorem runE_arg {l : List Cl} {n : Int} (h : n < 0 ∨ 100000 < n) : runE l n = 1 ∧ runV l n = [] ∧ runM l n = l := by
  have e : runE l n = 1 := by unfold runE; rw [if_pos h]
  exact ⟨e, by unfold runV; rw [e]; rfl, by unfold runM; rw [e]; rfl⟩
theorem runE_none {l : List Cl} {n : Int} (h : 0 < n) (h2 : n ≤ 100000) (h3 : l.length = 0) : runE l n = 8 ∧ runV l n = [] ∧ runM l n = l := by
  have e : runE l n = 8 := by unfold runE; rw [if_neg (by omega), if_pos ⟨h, h3⟩]
  exact ⟨e, by unfold runV; rw [e]; rfl, by unfold runM; rw [e]; rfl⟩
theorem runE_ok {l : List Cl} {n : Nat} (h : n ≤ 100000) (h3 : 0 < n → 0 < l.length) : runE l (n : Int) = 0 ∧ runV l (n : Int) = pids l n ∧ runM l (n : Int) = pks l n := by
  have e : runE l (n : Int) = 0 := by
    unfold runE
    rw [if_neg (by omega), if_neg (fun h => by have := h3 (by omega); omega)]
  exact ⟨e, by unfold runV; rw [if_pos e]; rfl, by unfold runM; rw [if_pos e]; rfl⟩

set_option maxRecDepth 100000 in
set_option maxHeartbeats 4000000 in
theorem run_any (gb r : Nat) (l : List Cl) (n : Int) (w : World) (h : Grp w gb r l) (hg : Gr l) :
    Calls Try.prog 15 #[gp gb, .int .i64 n] w fun e w' => ∃ v, e = .returned (.tuple #[v, .int .i64 (runE l n)]) ∧ OwnN w.heap.size w' v (runV l n).length (runV l n) ∧ Grp w' gb r (runM l n) ∧ Tn gb r w w' := by
  by_cases h1 : n < 0 ∨ 100000 < n
  · obtain ⟨E1, E2, E3⟩ := runE_arg (l := l) h1
    rw [E1, E2, E3]
    have HG := hid h
    clear h E1 E2 E3
    by_cases h2 : n < 0
    · have t1 : decide (n < 0) = true := by simpa using h2
      clear h1 h2
      go_enter Try.func15, Try.ntmps15
      go_wp2
      go_ret2
      exact ⟨_, rfl, OwnE.nil _ _ _ _ _, HG.out, Tn.refl _ _ _⟩
    · have t1 : decide (n < 0) = false := by simpa using h2
      have t2 : decide (100000 < n) = true := by simp; omega
      clear h1 h2
      go_enter Try.func15, Try.ntmps15
      go_wp2
      go_ret2
      exact ⟨_, rfl, OwnE.nil _ _ _ _ _, HG.out, Tn.refl _ _ _⟩
  · by_cases h2 : 0 < n ∧ l.length = 0
    · obtain ⟨E1, E2, E3⟩ := runE_none h2.1 (by omega) h2.2
      rw [E1, E2, E3]
      obtain ⟨a, cap, cc, ff, hh, _⟩ := h.box
      have HG := hid h
      rw [h2.2] at cc
      have t1 : decide (n < 0) = false := by simp; omega
      have t2 : decide (100000 < n) = false := by simp; omega
      have t3 : decide (0 < n) = true := by simp; omega
      clear h E1 E2 E3 h1 h2 hh
      go_enter Try.func15, Try.ntmps15
      go_wp2
      go_ret2
      exact ⟨_, rfl, OwnE.nil _ _ _ _ _, HG.out, Tn.refl _ _ _⟩
    · obtain ⟨N, rfl⟩ : ∃ N : Nat, n = N := ⟨n.toNat, by omega⟩
      obtain ⟨E1, E2, E3⟩ := runE_ok (l := l) (n := N) (by omega) (fun h => by omega)
      rw [E1, E2, E3, pids_len]
      exact callsIn_wide.1 (run_in gb r N l w h hg (by omega) (fun h => by omega))
theorem run_nil (n : Int) (w : World) : Calls Try.prog 15 #[.pointer none, .int .i64 n] w fun e w' => e = .returned (.tuple #[.slice none 0 0, .int .i64 17]) ∧ w = w' := by
  go_enter Try.func15, Try.ntmps15
  go_wp2
  go_ret2
  exact ⟨rfl, rfl⟩
theorem join_nil (a b c : Int) (w : World) : Calls Try.prog 16 #[.pointer none, .int .i64 a, .int .i64 b, .int .i64 c] w fun e w' => e = .returned (.int .i64 17) ∧ w = w' := by
  go_enter Try.func16, Try.ntmps16
  go_wp2
  go_ret
  exact ⟨rfl, rfl⟩
theorem leave_nil (a : Int) (w : World) : Calls Try.prog 19 #[.pointer none, .int .i64 a] w fun e w' => e = .returned (.tuple #[.int .i64 0, .int .i64 17]) ∧ w = w' := by
  go_enter Try.func19, Try.ntmps19
  go_wp2
  go_ret2
  exact ⟨rfl, rfl⟩
theorem change_nil (a b : Int) (w : World) : Calls Try.prog 20 #[.pointer none, .int .i64 a, .int .i64 b] w fun e w' => e = .returned (.int .i64 17) ∧ w = w' := by
  go_enter Try.func20, Try.ntmps20
  go_wp2
  go_ret
  exact ⟨rfl, rfl⟩
theorem pick_nil (w : World) : Calls Try.prog 18 #[.pointer none] w fun e w' => e = .returned (.tuple #[.int .i64 0, .int .i64 17]) ∧ w = w' := by
  go_enter Try.func18, Try.ntmps18
  go_wp2_with (refine (run_nil _ _).mono ?_; rintro e w' ⟨rfl, rfl⟩)
  go_ret2
  exact ⟨rfl, rfl⟩

set_option maxHeartbeats 2000000 in
theorem pick_any (gb r : Nat) (l : List Cl) (w : World) (h : Grp w gb r l) (hg : Gr l) :
    Calls Try.prog 18 #[gp gb] w fun e w' => e = .returned (.tuple #[.int .i64 (pickV l), .int .i64 (pickE l)]) ∧ Grp w' gb r (pickM l) ∧ Tn gb r w w' := by
  have RA := run_any gb r l 1 w h hg
  by_cases hp : l.length = 0
  · obtain ⟨E1, E2, E3⟩ := runE_none (l := l) (n := 1) (by omega) (by omega) hp
    rw [E1, E2, E3] at RA
    have e1 : pickE l = 8 := by unfold pickE; rw [if_pos hp]
    have e2 : pickV l = 0 := by unfold pickV; rw [if_pos hp]
    have e3 : pickM l = l := by unfold pickM; rw [if_pos hp]
    rw [e1, e2, e3]
    have R := hid RA
    clear RA h hg hp e1 e2 e3 E1 E2 E3
    go_enter Try.func18, Try.ntmps18
    go_wp2_with fail
    refine R.out.mono ?_
    rintro e w1 ⟨v, rfl, o1, g1, t1⟩
    have G1 := hid g1
    have T1 := hid t1
    clear o1 g1 t1
    go_wp2
    go_ret2
    exact ⟨rfl, G1.out, T1.out⟩
  · obtain ⟨E1, E2, E3⟩ := runE_ok (l := l) (n := 1) (by omega) (fun _ => by omega)
    simp only [Int.natCast_one] at E1 E2 E3
    rw [E1, E2, E3] at RA
    have e1 : pickE l = 0 := by unfold pickE; rw [if_neg hp]
    have e2 : pickV l = pid l := by unfold pickV; rw [if_neg hp]
    have e3 : pickM l = pks l 1 := by unfold pickM; rw [if_neg hp]; rfl
    have e4 : pids l 1 = [pid l] := rfl
    rw [e1, e2, e3]
    rw [e4] at RA
    clear e4 e2
    generalize pid l = q at *
    have R := hid RA
    clear RA h hg hp e1 e3 E1 E2 E3
    go_enter Try.func18, Try.ntmps18
    go_wp2_with fail
    refine R.out.mono ?_
    rintro e w1 ⟨v, rfl, o1, g1, t1⟩
    obtain ⟨a, cap, rfl⟩ := o1.form
    obtain ⟨b, off, rfl, RR⟩ := (o1.holds encN_len).rowN (by simp)
    have c0 := RR 0 (by simp)
    simp only [Nat.add_zero, List.getElem?_cons_zero, Option.getD_some] at c0
    have G1 := hid g1
    have T1 := hid t1
    clear o1 g1 t1 RR
    simp only [List.length_cons, List.length_nil, Nat.zero_add]
    go_wp2
    go_ret2
    exact ⟨rfl, G1.out, T1.out⟩

end Go.Proofs.Ytdenhpclopjjgaa
