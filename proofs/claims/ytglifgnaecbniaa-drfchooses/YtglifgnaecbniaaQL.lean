/-
  Contracts of queue: the Ids at places that are yielded.
-/
import Derived.Test.YtglifgnaecbniaaQD
import Derived.Stop.RegionWithIn
namespace Go.Proofs.Ytglifgnaecbniaa
open Go.RowKit Go.Deep Go.Maps Go.Shelf
set_option linter.unusedVariables false
attribute [local go_sem] Oper.semAt_some

/-- 'append', kept folded. -/
def appF (ats : Array TypeId) (ty : TypeId) (args : Array Value) : Sem Value := Builtin.append_ ats ty args
theorem appF_eq (ats : Array TypeId) (ty : TypeId) (args : Array Value) : Builtin.append_ ats ty args = appF ats ty args := rfl
attribute [local go_sem ↓] appF_eq

/-- A number's cell. -/
def encN (x : Int) : List Value := [.int .i64 x]
theorem encN_len (x : Int) : (encN x).length = 1 := rfl
theorem infoN : (Try.prog.info? 3).map (fun i => (i.zero, i.size, i.bytes)) = some (some (.int .i64 0), 1, 8) := by kernel_rfl
abbrev OwnN (base : Nat) (w : World) (v : Value) (n : Nat) (l : List Int) : Prop := OwnE 3 1 encN base w v n l
abbrev HoldsN (w : World) (a : Option Addr) (len cap : Nat) (l : List Int) : Prop := HoldsE 1 encN w a len cap l

/-- A function value that yields these places, whatever the rounds do to other memory. -/
def Gives (l : List Qu) (gf : Nat) (lbs : Array Value) (ps : List (Fin l.length)) (w : World) : Prop :=
  (∀ args w, (callFunc gf args).run Try.prog w = .ok (.enter gf args) w) ∧ ∀ (W : World) (X N : Nat), Below w.heap.size w W → w.heap.size ≤ X → w.heap.size ≤ N → N ≤ W.heap.size →
    SeqStopsK Fence.wide 4 Try.prog gf lbs (encF l) (Kq X N) (fun xs => xs = ps) (fun pre => pre ≠ [] ∧ pre <+: ps) ps.length W

theorem keepsOthers_grown {W W' : World} {row : Option Nat} (h : W.grownBy W' row) (hr : ∀ g, row = some g → ∃ o : Obj, W.heap[g]? = some o ∧ o.isCells = true) : KeepsOthers W W' := by
  refine ⟨h.size, fun k o hk ho => ?_⟩
  have hlt := (Array.getElem?_eq_some_iff.1 hk).1
  rw [h.block k hlt (fun e => ?_)]
  · exact hk
  · obtain ⟨o', h1, h2⟩ := hr k e.symm
    rw [hk] at h1
    cases h1
    rw [ho] at h2; cases h2
theorem ownsRow_cells {w : World} {base : Nat} {e : TypeId} {size : Nat} {v : Value} {n : Nat} {xs : List Value} (h : w.ownsRow base e size v n xs) : ∀ g, v.ownBlock = some g → ∃ o : Obj, w.heap[g]? = some o ∧ o.isCells = true := by
  intro g hg
  rcases h.2 with ⟨rfl, _⟩ | ⟨g', cap, cur, rfl, hb, hh, _⟩
  · simp [Value.ownBlock] at hg
  · simp [Value.ownBlock] at hg
    subst hg
    exact ⟨_, hh, rfl⟩
theorem OwnE.own {α : Type} {e : TypeId} {k : Nat} {enc : α → List Value} {base n : Nat} {l : List α} {v : Value} {A B : World} {row : Option Nat} (h : OwnE e k enc base A v n l) (hg : A.grownBy B row) (hr : ∀ r, row = some r → ∃ o : Obj, A.heap[r]? = some o ∧ o.isCells = false) : OwnE e k enc base B v n l := by
  refine ⟨h.1, h.2.kept hg ?_⟩
  cases hv : v.ownBlock with
  | none => exact .inl rfl
  | some g =>
    refine .inr (fun e => ?_)
    obtain ⟨o, h1, h2⟩ := ownsRow_cells h.2 g hv
    obtain ⟨o', h3, h4⟩ := hr g e.symm
    rw [h1] at h3; cases h3
    rw [h2] at h4; cases h4

theorem kq_set' {X N : Nat} {A B : World} {o : Nat} {v : Value} (h : Kq X N A B) : Kq X N A (B.setCell ⟨X, o, none⟩ v) := by
  refine ⟨⟨by have := h.1.size; simpa [World.setCell] using this, fun i q hi hq => ?_⟩, fun b hb hx => (Below.heap_setCell _ _ _ _ (by simpa using hx)).trans (h.2 b hb hx)⟩
  have h1 := h.1.same i q hi hq
  exact (KeepsOthers.setCell B ⟨X, o, none⟩ v).same i q h1 (Obj.not_cells_of_walk hq)

set_option maxRecDepth 100000 in
set_option maxHeartbeats 4000000 in
theorem ids_in (lb off len cap mb : Nat) (l : List Qu) (gf : Nat) (lbs : Array Value) (ps : List (Fin l.length)) (w : World) (hT : Tree w lb off len cap mb l) (hG : Gives l gf lbs ps w) (hps : ps.length ≤ 64) :
    CallsIn Fence.wide 5 Try.prog 72 #[tv lb off len cap mb, .func (.func gf) #[] lbs] w fun e W' => ∃ v, e = .returned v ∧ OwnN w.heap.size W' v ps.length (ps.map (fun i => (qa l i.val).id)) ∧ Below w.heap.size w W' := by
  obtain ⟨i0, hi, hz0, hz1, hz2⟩ := info_parts infoN
  refine callsIn_of_wp_marks Try.func72 rfl trivial ?_ rfl
  simp only [Try.ntmps72, List.size_toArray, List.length_cons, List.length_nil, Nat.reduceAdd, Nat.reduceSub, Array.replicate_succ, Array.replicate_zero, List.push_toArray, List.append_toArray, List.nil_append, List.cons_append]
  gi_wp2
  have hB0 : Below w.heap.size w ((w.alloc (.cells #[.slice (some ⟨lb, off, none⟩) len cap, .map (some mb)] 76)).alloc (.cells #[.slice none 0 0] 24)) := (by repeat (first | exact Below.refl _ _ | assumption | refine Below.alloc ?_ (by simp <;> omega) _ | refine Below.setCell ?_ (by simp <;> omega) _ | refine Below.drew ?_ | refine below_drewN ?_ _))
  have c0 : ((w.alloc (.cells #[.slice (some ⟨lb, off, none⟩) len cap, .map (some mb)] 76)).alloc (.cells #[.slice none 0 0] 24)).cell? ⟨w.heap.size, 0, none⟩ = some (.slice (some ⟨lb, off, none⟩) len cap) := by simp [go_sem]
  have c1 : ((w.alloc (.cells #[.slice (some ⟨lb, off, none⟩) len cap, .map (some mb)] 76)).alloc (.cells #[.slice none 0 0] 24)).cell? ⟨w.heap.size + 1, 0, none⟩ = some (.slice none 0 0) := by simp [go_sem]
  have f1 : ((w.alloc (.cells #[.slice (some ⟨lb, off, none⟩) len cap, .map (some mb)] 76)).alloc (.cells #[.slice none 0 0] 24)).frozen? ⟨w.heap.size + 1, 0, none⟩ = false := by simp [go_sem]
  have hsz : ((w.alloc (.cells #[.slice (some ⟨lb, off, none⟩) len cap, .map (some mb)] 76)).alloc (.cells #[.slice none 0 0] 24)).heap.size = w.heap.size + 2 := by simp
  have hlb := hT.row.1
  have HT := hid hT
  have hlen := hT.hlen
  have hcap := hT.hcap
  have hle := hT.hle
  clear hT
  generalize hW0 : ((w.alloc (.cells #[.slice (some ⟨lb, off, none⟩) len cap, .map (some mb)] 76)).alloc (.cells #[.slice none 0 0] 24)) = W0 at *
  refine wpIn_rangeFunc_ownF rfl (by omega) (gf := gf) (lb := lbs) rfl trivial hG.1
    (hG.2 W0 (w.heap.size + 1) (w.heap.size + 2) hB0 (by omega) (by omega) (by omega)) kq_t (kq_b (by omega)) (Below.refl _ _) (fun _ => rfl)
    (fun pre W => ((∃ v, W.cell? ⟨w.heap.size + 1, 0, none⟩ = some v ∧ W.frozen? ⟨w.heap.size + 1, 0, none⟩ = false ∧ OwnN (w.heap.size + 2) W v pre.length (pre.map (fun i => (qa l i.val).id))) ∧ W.cell? ⟨w.heap.size, 0, none⟩ = some (.slice (some ⟨lb, off, none⟩) len cap) ∧ w.heap.size + 2 ≤ W.heap.size) ∧ Below w.heap.size w W)
    (fun _ _ _ => False)
    (OwnFrom.and (Own.from (fun s A B row hs hg hr => by
        obtain ⟨⟨v, h1, h2, h3⟩, h4, h5⟩ := hs
        exact ⟨⟨v, cell_kept h1 hg hr, (frozen_kept h1 hg hr).trans h2, h3.own hg hr⟩, cell_kept h4 hg hr, Nat.le_trans h5 hg.size⟩) _) (ownFrom_below (Nat.le_refl _) (by omega)))
    (fun _ _ _ _ _ hs _ _ => hs)
    ⟨⟨⟨_, c1, f1, OwnE.nil _ _ _ _ _⟩, c0, by omega⟩, hB0⟩
    (fun x => { tmps := #[tv lb off len cap mb, .func (.func gf) #[] lbs, .pointer (some ⟨w.heap.size, 0, none⟩), undef, .slice none 0 0, .pointer (some ⟨w.heap.size + 1, 0, none⟩), .int .i64 (x.val : Int), .func (.func gf) #[] lbs, .int .i64 (x.val : Int), undef, undef, undef, undef, undef, undef, undef, undef, undef, undef], defers := [] }) ?assign ?body ?done ?stop
  case assign =>
    intro lp x W K hK
    gi_wp2
    exact hK
  case body =>
    rintro lp pre x W ⟨⟨⟨v, e1, g1, hrow⟩, e0, hsW⟩, hB⟩ hpl
    obtain ⟨a0, a1, a2, a3, a4, a5, a6⟩ := (HT.out.row.below hB).2 x.val x.2
    clear a1 a2 a3 a4 a5 a6
    have xb : (x.val : Int) < (len : Int) := by have := x.2; omega
    have xa : (0 : Int) ≤ (x.val : Int) := by omega
    obtain ⟨v', w1, hrun, hown', hgr, hnil⟩ := run_append_own (P := Try.prog) ((W.alloc (.cells #[.int .i64 (qa l x.val).id] 3)).drew) (w.heap.size + 2) 24 24 3 i0 (.int .i64 0) 1 8 Try.underlying24 hi hz0 hz1 hz2 rfl (by decide) v pre.length _ ((hrow.2.alloc _).drew) ⟨W.heap.size, 0, none⟩ 1 1 [.int .i64 (qa l x.val).id] rfl (by
      intro j u hj
      match j, hj with
      | 0, hj => simp at hj; subst hj; simp [Addr.add, go_sem]) (by simp [Value.oneCell']) (by unfold maxLen; omega) (by omega) (by simp; omega)
    obtain ⟨g', cap', rfl⟩ := ownsRow_succ hown'
    rw [appF_eq] at hrun
    have hrowlt : ∀ g, v.ownBlock = some g → w.heap.size + 2 ≤ g := fun g hg => (hrow.lt g hg).1
    have hne1 : some (w.heap.size + 1) ≠ v.ownBlock := fun e => by have := hrowlt _ e.symm; omega
    have hge : w.heap.size + 2 ≤ g' := (hown'.lt g' rfl).1
    have hblk : ∀ b, b < w.heap.size + 2 → w1.heap[b]? = W.heap[b]? := fun b hb => by
      rw [hgr.block b (by simp; omega) (fun e => by have := hrowlt _ e.symm; omega)]
      exact Below.heap_alloc _ _ _ (by show b < W.heap.size; omega)
    have u1 : w1.cell? ⟨w.heap.size + 1, 0, none⟩ = some v := (World.cell?_of_block (w := W) (hblk _ (by simp))).trans e1
    have v1 : w1.frozen? ⟨w.heap.size + 1, 0, none⟩ = false := (World.frozen?_of_block (w := W) (hblk _ (by simp))).trans g1
    have u0 : Hid (w1.cell? ⟨w.heap.size, 0, none⟩ = some (.slice (some ⟨lb, off, none⟩) len cap)) := (World.cell?_of_block (w := W) (hblk _ (by simp))).trans e0
    have hB1 : Hid (Below w.heap.size w w1) := ((hB.alloc hB.size _).drew.grown hgr (by have := hB.size; simp; omega) (fun k e => by have := hrowlt k e; omega))
    have hKO : Hid (KeepsOthers W w1) := by
      have h1 : KeepsOthers W ((W.alloc (.cells #[.int .i64 (qa l x.val).id] 3)).drew) := ⟨by simp, fun k o hk _ => (Below.heap_alloc W.drew _ _ (Array.getElem?_eq_some_iff.1 hk).1).trans hk⟩
      exact h1.trans (keepsOthers_grown hgr (ownsRow_cells ((hrow.2.alloc _).drew)))
    have hKq : Hid (Kq (w.heap.size + 1) (w.heap.size + 2) W w1) := ⟨⟨hKO.out.size, fun i o hi ho => hKO.out.same i o hi (Obj.not_cells_of_walk ho)⟩, fun b hb hx => hblk b hb⟩
    have HO : Hid (w1.ownsRow (w.heap.size + 2) 3 1 (.slice (some ⟨g', 0, none⟩) (pre.length + 1) cap') (pre.length + 1) (((pre ++ [x]).map (fun i => (qa l i.val).id)).flatMap encN)) := by
      have := hown'
      simpa [encN, Hid] using this
    have HS : Hid (w.heap.size + 2 ≤ w1.heap.size) := by have := hgr.size; simp at this; show _ ≤ _; omega
    have e1a := keepc ((Below.refl _ W).alloc (Nat.le_refl _) (.cells #[.int .i64 (qa l x.val).id] 3)) e1
    clear hgr hown' hrow hnil hblk hB hsW hne1 hrowlt
    generalize (qa l x.val).id = idv at *
    generalize hx : x.val = xi at *
    gi_wp2_with fail
    gi_region_with fail
    all_goals gi_wp2
    all_goals
      refine ⟨hKO.out.trans (KeepsOthers.setCell _ _ _), kq_set' hKq.out, ⟨⟨_, World.cell?_setCell_same' _ _ _ (by rw [u1]; rfl), by rw [World.frozen?_setCell]; exact v1, by simp, by rw [List.length_append]; exact HO.out.kept (grownBy_setCell' w1 (w.heap.size + 1) _) (.inr (by simp [Value.ownBlock]; omega))⟩, ?_, by have := HS.out; simpa [World.setCell] using this⟩, hB1.out.setCell (p := ⟨w.heap.size + 1, 0, none⟩) (by simp) _⟩
      exact (World.cell?_setCell_other w1 _ _ _ (by simp)).trans u0.out
  case done =>
    rintro D ys W hD rfl ⟨⟨⟨v, e1, g1, hrow⟩, e0, hsW⟩, hB⟩ hK
    gi_wp2
    refine ⟨by simp, .inl ⟨_, _, rfl, run_takeDeferred hK, ?_⟩⟩
    refine ⟨_, results_tmp rfl _ _ _, v, rfl, ?_, hB.trans (belowK_b (w := w) (Nat.le_refl _) W D _ _ (by omega) hK rfl rfl)⟩
    exact (hrow.own (grownBy_putObj' _ D (.deferred none)) (fun r e => by cases e; exact ⟨_, hK, rfl⟩)).weaken (by omega)
  case stop =>
    rintro D j pre W _ _ h _
    exact h.elim

theorem ids_any (lb off len cap mb : Nat) (l : List Qu) (gf : Nat) (lbs : Array Value) (ps : List (Fin l.length)) (w : World) (hT : Tree w lb off len cap mb l) (hG : Gives l gf lbs ps w) (hps : ps.length ≤ 64) :
    Calls Try.prog 72 #[tv lb off len cap mb, .func (.func gf) #[] lbs] w fun e W' => ∃ v, e = .returned v ∧ OwnN w.heap.size W' v ps.length (ps.map (fun i => (qa l i.val).id)) ∧ Below w.heap.size w W' := callsIn_wide.1 (ids_in lb off len cap mb l gf lbs ps w hT hG hps)

end Go.Proofs.Ytglifgnaecbniaa
