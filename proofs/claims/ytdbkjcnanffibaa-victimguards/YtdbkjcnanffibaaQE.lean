/-
  Contracts of queue: isLeaf, covers.
-/
import Derived.Test.YtdbkjcnanffibaaQD
import Derived.Stop.RegionWithIn
namespace Go.Proofs.Ytdbkjcnanffibaa
open Go.RowKit Go.Deep Go.Maps Go.Shelf
set_option linter.unusedVariables false
attribute [local go_sem] Oper.semAt_some

/-- Has a queue no children? -/
def leafB (l : List Qu) (id : Int) : Bool := (kids l id).isEmpty

theorem pre_ne {α : Type} {pre l : List α} (h : pre ≠ []) (k : pre <+: l) : l ≠ [] := fun e => by subst e; simp at k; exact h k

set_option maxRecDepth 100000 in
set_option maxHeartbeats 2000000 in
theorem isLeaf_in (lb off len cap mb : Nat) (l : List Qu) (id : Int) (w : World) (hT : Tree w lb off len cap mb l) :
    CallsIn Fence.wide 5 Try.prog 58 #[tv lb off len cap mb, .int .i64 id] w fun e W' => e = .returned (.bool (leafB l id)) ∧ Below w.heap.size w W' := by
  refine callsIn_of_wp_marks Try.func58 rfl trivial ?_ rfl
  simp only [Try.ntmps58, List.size_toArray, List.length_cons, List.length_nil, Nat.reduceAdd, Nat.reduceSub, Array.replicate_succ, Array.replicate_zero, List.push_toArray, List.append_toArray, List.nil_append, List.cons_append]
  gi_wp2_with (refine ⟨trivial, ?_⟩; gi_at_call 68; refine (callsIn_wide.2 (children_mk _ _ _ _ _ _ _)).mono ?_; rintro e w' ⟨rfl, rfl⟩)

  have hB0 : Below w.heap.size w ((((w.alloc (.cells #[.slice (some ⟨lb, off, none⟩) len cap, .map (some mb)] 73)).alloc (.cells #[.bool false] 4)).alloc (.cells #[.slice (some ⟨lb, off, none⟩) len cap, .map (some mb)] 73)).alloc (.cells #[.int .i64 id] 3)) := (by repeat (first | exact Below.refl _ _ | assumption | refine Below.alloc ?_ (by simp <;> omega) _ | refine Below.setCell ?_ (by simp <;> omega) _ | refine Below.drew ?_ | refine below_drewN ?_ _))
  have cr : ((((w.alloc (.cells #[.slice (some ⟨lb, off, none⟩) len cap, .map (some mb)] 73)).alloc (.cells #[.bool false] 4)).alloc (.cells #[.slice (some ⟨lb, off, none⟩) len cap, .map (some mb)] 73)).alloc (.cells #[.int .i64 id] 3)).cell? ⟨w.heap.size + 1, 0, none⟩ = some (.bool false) := by simp [go_sem]
  have fr : ((((w.alloc (.cells #[.slice (some ⟨lb, off, none⟩) len cap, .map (some mb)] 73)).alloc (.cells #[.bool false] 4)).alloc (.cells #[.slice (some ⟨lb, off, none⟩) len cap, .map (some mb)] 73)).alloc (.cells #[.int .i64 id] 3)).frozen? ⟨w.heap.size + 1, 0, none⟩ = false := by simp [go_sem]
  have ct : ((((w.alloc (.cells #[.slice (some ⟨lb, off, none⟩) len cap, .map (some mb)] 73)).alloc (.cells #[.bool false] 4)).alloc (.cells #[.slice (some ⟨lb, off, none⟩) len cap, .map (some mb)] 73)).alloc (.cells #[.int .i64 id] 3)).cell? ⟨w.heap.size + 1 + 1, 0, none⟩ = some (.slice (some ⟨lb, off, none⟩) len cap) := by simp [go_sem]
  have ci : ((((w.alloc (.cells #[.slice (some ⟨lb, off, none⟩) len cap, .map (some mb)] 73)).alloc (.cells #[.bool false] 4)).alloc (.cells #[.slice (some ⟨lb, off, none⟩) len cap, .map (some mb)] 73)).alloc (.cells #[.int .i64 id] 3)).cell? ⟨w.heap.size + 1 + 1 + 1, 0, none⟩ = some (.int .i64 id) := by simp [go_sem]
  have hsz : ((((w.alloc (.cells #[.slice (some ⟨lb, off, none⟩) len cap, .map (some mb)] 73)).alloc (.cells #[.bool false] 4)).alloc (.cells #[.slice (some ⟨lb, off, none⟩) len cap, .map (some mb)] 73)).alloc (.cells #[.int .i64 id] 3)).heap.size = w.heap.size + 4 := by simp
  have hT0 := hT.below hB0
  have hlb := hT.row.1
  generalize hW0 : ((((w.alloc (.cells #[.slice (some ⟨lb, off, none⟩) len cap, .map (some mb)] 73)).alloc (.cells #[.bool false] 4)).alloc (.cells #[.slice (some ⟨lb, off, none⟩) len cap, .map (some mb)] 73)).alloc (.cells #[.int .i64 id] 3)) = W0 at *
  refine wpIn_rangeFunc_ownF rfl (by omega) (gf := 83) (lb := #[.pointer (some ⟨w.heap.size + 1 + 1, 0, none⟩), .pointer (some ⟨w.heap.size + 1 + 1 + 1, 0, none⟩)]) rfl trivial (enters_of Try.func83 (by kernel_rfl) rfl)
    (children_stops 4 (by omega) (w.heap.size + 1) W0.heap.size (w.heap.size + 1 + 1) (w.heap.size + 1 + 1 + 1) lb off len cap mb l id W0 hT0 ct ci (by omega) (by omega) (by omega) (by omega) (by omega) (by omega) (by omega)) kq_t (kq_b (Nat.le_refl _)) (Below.refl _ _) (fun _ => rfl)
    (fun pre W => (pre = [] ∧ W.cell? ⟨w.heap.size + 1, 0, none⟩ = some (.bool false) ∧ W.frozen? ⟨w.heap.size + 1, 0, none⟩ = false) ∧ Below w.heap.size w W)
    (fun j pre W => (j = .ret ∧ W.cell? ⟨w.heap.size + 1, 0, none⟩ = some (.bool false)) ∧ Below w.heap.size w W)
    (OwnFrom.and (Own.from (fun s A B row hs hg hr => ⟨hs.1, cell_kept hs.2.1 hg hr, (frozen_kept hs.2.1 hg hr).trans hs.2.2⟩) _) (ownFrom_below (Nat.le_refl _) (by omega)))
    (fun j => OwnFrom.and (Own.from (fun s A B row hs hg hr => ⟨hs.1, cell_kept hs.2 hg hr⟩) _) (ownFrom_below (Nat.le_refl _) (by omega)))
    ⟨⟨rfl, cr, fr⟩, hB0⟩
    (fun x => { tmps := #[tv lb off len cap mb, .int .i64 id, .pointer (some ⟨w.heap.size, 0, none⟩), undef, .pointer (some ⟨w.heap.size + 1, 0, none⟩), .agg #[.slice (some ⟨lb, off, none⟩) len cap, .map (some mb)], .int .i64 id, .func (.func 83) #[] #[.pointer (some ⟨w.heap.size + 1 + 1, 0, none⟩), .pointer (some ⟨w.heap.size + 1 + 1 + 1, 0, none⟩)], .int .i64 (x.val : Int)], defers := [] }) ?assign ?body ?done ?stop
  case assign =>
    intro lp x W K hK
    gi_wp2
    simpa using hK
  case body =>
    rintro lp pre x W ⟨⟨rfl, hc, hf⟩, hB⟩ _
    gi_wp2
    exact ⟨KeepsOthers.setCell _ _ _, ⟨rfl, World.cell?_setCell_same' _ _ _ (by rw [hc]; rfl)⟩, hB.setCell (p := ⟨w.heap.size + 1, 0, none⟩) (by simp) _⟩
  case done =>
    rintro D ys W hD rfl ⟨⟨hp, hc, hf⟩, hB⟩ hK
    gi_wp2
    have hK' := (KeepsOthers.setCell W ⟨w.heap.size + 1, 0, none⟩ (.bool true)).same D _ hK rfl
    refine ⟨by simp, .inl ⟨_, _, rfl, run_takeDeferred hK', ?_⟩⟩
    have hc5 := cell_kept (World.cell?_setCell_same' W ⟨w.heap.size + 1, 0, none⟩ (.bool true) (by rw [hc]; rfl)) (grownBy_putObj' _ D (.deferred none)) (fun r e => by cases e; exact ⟨_, hK', rfl⟩)
    refine ⟨.bool true, ?_, by rw [show leafB l id = true by unfold leafB; rw [hp]; rfl], (hB.setCell (p := ⟨w.heap.size + 1, 0, none⟩) (by simp) _).trans (belowK_b (w := w) (Nat.le_refl _) _ D _ _ (by omega) hK' rfl rfl)⟩
    simp [results, Try.f58, go_sem, hc5]
  case stop =>
    rintro D j pre W hD ⟨hp1, hp2⟩ ⟨⟨rfl, hc⟩, hB⟩ hK
    gi_wp2
    refine ⟨by simp, .inl ⟨_, _, rfl, run_takeDeferred hK, ?_⟩⟩
    have hc5 := cell_kept hc (grownBy_putObj' _ D (.deferred none)) (fun r e => by cases e; exact ⟨_, hK, rfl⟩)
    have hno : leafB l id = false := by
      have := pre_ne hp1 hp2
      unfold leafB
      cases hk : kids l id with
      | nil => exact absurd hk this
      | cons a b => rfl
    refine ⟨.bool false, ?_, by rw [hno], hB.trans (belowK_b (w := w) (Nat.le_refl _) W D _ _ (by omega) hK rfl rfl)⟩
    simp [results, Try.f58, go_sem, hc5]

theorem isLeaf_any (lb off len cap mb : Nat) (l : List Qu) (id : Int) (w : World) (hT : Tree w lb off len cap mb l) :
    Calls Try.prog 58 #[tv lb off len cap mb, .int .i64 id] w fun e W' => e = .returned (.bool (leafB l id)) ∧ Below w.heap.size w W' := callsIn_wide.1 (isLeaf_in lb off len cap mb l id w hT)

/-- The sum of the Mins at some places. -/
def fsum (l : List Qu) (f : Qu → Int) (ps : List (Fin l.length)) : Int := (ps.map (fun i : Fin l.length => f (qa l i.val))).sum
theorem fsum_snoc (l : List Qu) (f : Qu → Int) (ps : List (Fin l.length)) (x : Fin l.length) : fsum l f (ps ++ [x]) = fsum l f ps + f (qa l x.val) := by simp [fsum]
theorem kids_sumc (l : List Qu) (id : Int) : ∀ k, k ≤ l.length → fsum l Qu.mc (kidsTo l id k) = sumc (l.take k) id ∧ fsum l Qu.mm (kidsTo l id k) = summ (l.take k) id := by
  intro k
  induction k with
  | zero => intro _; exact ⟨rfl, rfl⟩
  | succ k ih =>
    intro hk
    have h1 : k < l.length := by omega
    rw [take_snocQ h1, sumc_snoc, summ_snoc]
    have := ih (by omega)
    by_cases e : (qa l k).par = id
    · rw [kidsTo_yes h1 e, fsum_snoc, fsum_snoc, this.1, this.2, if_pos e, if_pos e]
      exact ⟨rfl, rfl⟩
    · rw [kidsTo_no h1 e, this.1, this.2, if_neg e, if_neg e]
      omega
theorem kids_sum (l : List Qu) (id : Int) : fsum l Qu.mc (kids l id) = sumc l id ∧ fsum l Qu.mm (kids l id) = summ l id := by
  have := kids_sumc l id l.length (Nat.le_refl _)
  rw [kidsTo_all, List.take_length] at this
  exact this
theorem fsum_nonneg {l : List Qu} (h : argB l = true) (ps : List (Fin l.length)) : 0 ≤ fsum l Qu.mc ps ∧ 0 ≤ fsum l Qu.mm ps := by
  induction ps with
  | nil => simp [fsum]
  | cons x ps ih =>
    have := okv_true (arg_at h (qa_mem x.2)).2.2
    unfold okp at this
    simp only at this
    simp only [fsum, List.map_cons, List.sum_cons] at *
    omega
theorem fsum_pre {l : List Qu} (h : argB l = true) {ps qs : List (Fin l.length)} (hp : ps <+: qs) : fsum l Qu.mc ps ≤ fsum l Qu.mc qs ∧ fsum l Qu.mm ps ≤ fsum l Qu.mm qs := by
  obtain ⟨r, rfl⟩ := hp
  have := fsum_nonneg h r
  simp only [fsum, List.map_append, List.sum_append] at *
  omega

theorem vadd_ok (c m d k : Int) (w : World) (h1 : okv (c, m) = true) (h2 : okv (d, k) = true) (h3 : okv (c + d, m + k) = true) :
    Calls Try.prog 35 #[.agg #[.int .i64 c, .int .i64 m], .agg #[.int .i64 d, .int .i64 k]] w fun e w' => e = .returned (.tuple #[.agg #[.int .i64 (c + d), .int .i64 (m + k)], .int .i64 0]) ∧ Below w.heap.size w w' := by
  refine (vadd_any c m d k w).mono ?_
  rintro e w' ⟨rfl, hb⟩
  have : rop (c, m) (d, k) (c + d, m + k) = ((c + d, m + k), 0) := by unfold rop rin; rw [if_pos ⟨h1, h2⟩, if_pos h3]
  rw [this]
  exact ⟨rfl, hb⟩
theorem vadd_over (c m d k : Int) (w : World) (h1 : okv (c, m) = true) (h2 : okv (d, k) = true) (h3 : okv (c + d, m + k) = false) :
    Calls Try.prog 35 #[.agg #[.int .i64 c, .int .i64 m], .agg #[.int .i64 d, .int .i64 k]] w fun e w' => e = .returned (.tuple #[.agg #[.int .i64 0, .int .i64 0], .int .i64 2]) ∧ Below w.heap.size w w' := by
  refine (vadd_any c m d k w).mono ?_
  rintro e w' ⟨rfl, hb⟩
  have : rop (c, m) (d, k) (c + d, m + k) = ((0, 0), 2) := by unfold rop rin; rw [if_pos ⟨h1, h2⟩, if_neg (by rw [h3]; decide)]
  rw [this]
  exact ⟨rfl, hb⟩

theorem keepsOthers_below' {W W' : World} (h : Below W.heap.size W W') : KeepsOthers W W' :=
  ⟨h.size, fun k o hk _ => (h.block k (Array.getElem?_eq_some_iff.1 hk).1).trans hk⟩
theorem kq_set {X N : Nat} {A B : World} {o : Nat} {v : Value} (h : Kq X N A B) : Kq X N A (B.setCell ⟨X, o, none⟩ v) := by
  refine ⟨⟨by have := h.1.size; simpa [World.setCell] using this, fun i q hi hq => ?_⟩, fun b hb hx => (Below.heap_setCell _ _ _ _ (by simpa using hx)).trans (h.2 b hb hx)⟩
  have h1 := h.1.same i q hi hq
  exact (KeepsOthers.setCell B ⟨X, o, none⟩ v).same i q h1 (Obj.not_cells_of_walk hq)
theorem kq_set2 {X N : Nat} {A B : World} {o o' : Nat} {v v' : Value} (h : Kq X N A B) : Kq X N A ((B.setCell ⟨X, o, none⟩ v).setCell ⟨X, o', none⟩ v') := kq_set (kq_set h)

/-- What the loop keeps: the sum's cells, the result's, the list's. -/
def CovI (B lb off len cap : Nat) (l : List Qu) (pre : List (Fin l.length)) (W : World) : Prop :=
  okv (fsum l Qu.mc pre, fsum l Qu.mm pre) = true ∧ W.cell? ⟨B + 1 + 1 + 1, 0, none⟩ = some (.int .i64 (fsum l Qu.mc pre)) ∧ W.cell? ⟨B + 1 + 1 + 1, 1, none⟩ = some (.int .i64 (fsum l Qu.mm pre)) ∧ W.frozen? ⟨B + 1 + 1 + 1, 0, none⟩ = false ∧ W.frozen? ⟨B + 1 + 1 + 1, 1, none⟩ = false
  ∧ W.cell? ⟨B + 1 + 1, 0, none⟩ = some (.bool false) ∧ W.frozen? ⟨B + 1 + 1, 0, none⟩ = false ∧ W.cell? ⟨B, 0, none⟩ = some (.slice (some ⟨lb, off, none⟩) len cap)
theorem covI_own (B lb off len cap : Nat) (l : List Qu) : Own (CovI B lb off len cap l) := fun s A W row hs hg hr => by
  obtain ⟨h0, c0, c1, f0, f1, r0, g0, t0⟩ := hs
  exact ⟨h0, cell_kept c0 hg hr, cell_kept c1 hg hr, (frozen_kept c0 hg hr).trans f0, (frozen_kept c1 hg hr).trans f1, cell_kept r0 hg hr, (frozen_kept r0 hg hr).trans g0, cell_kept t0 hg hr⟩

set_option maxRecDepth 100000 in
set_option maxHeartbeats 4000000 in
theorem covers_in (lb off len cap mb : Nat) (l : List Qu) (q : Qu) (w : World) (hT : Tree w lb off len cap mb l) (hA : argB l = true) (hq : okv (q.mc, q.mm) = true) :
    CallsIn Fence.wide 5 Try.prog 56 #[tv lb off len cap mb, .agg #[.int .i64 q.id, .int .i64 q.par, .int .i64 q.wt, .int .i64 q.qc, .int .i64 q.qm, .int .i64 q.mc, .int .i64 q.mm]] w fun e W' => e = .returned (.bool (decide (sumc l q.id ≤ q.mc) && decide (summ l q.id ≤ q.mm))) ∧ Below w.heap.size w W' := by
  refine callsIn_of_wp_marks Try.func56 rfl trivial ?_ rfl
  simp only [Try.ntmps56, List.size_toArray, List.length_cons, List.length_nil, Nat.reduceAdd, Nat.reduceSub, Array.replicate_succ, Array.replicate_zero, List.push_toArray, List.append_toArray, List.nil_append, List.cons_append]
  gi_wp2_with (refine ⟨trivial, ?_⟩; gi_at_call 68; refine (callsIn_wide.2 (children_mk _ _ _ _ _ _ _)).mono ?_; rintro e w' ⟨rfl, rfl⟩)

  have hB0 : Below w.heap.size w ((((((w.alloc (.cells #[.slice (some ⟨lb, off, none⟩) len cap, .map (some mb)] 73)).alloc (.cells #[.int .i64 q.id, .int .i64 q.par, .int .i64 q.wt, .int .i64 q.qc, .int .i64 q.qm, .int .i64 q.mc, .int .i64 q.mm] 53)).alloc (.cells #[.bool false] 4)).alloc (.cells #[.int .i64 0, .int .i64 0] 32)).alloc (.cells #[.slice (some ⟨lb, off, none⟩) len cap, .map (some mb)] 73)).alloc (.cells #[.int .i64 q.id] 3)) := (by repeat (first | exact Below.refl _ _ | assumption | refine Below.alloc ?_ (by simp <;> omega) _ | refine Below.setCell ?_ (by simp <;> omega) _ | refine Below.drew ?_ | refine below_drewN ?_ _))
  have st : CovI w.heap.size lb off len cap l [] ((((((w.alloc (.cells #[.slice (some ⟨lb, off, none⟩) len cap, .map (some mb)] 73)).alloc (.cells #[.int .i64 q.id, .int .i64 q.par, .int .i64 q.wt, .int .i64 q.qc, .int .i64 q.qm, .int .i64 q.mc, .int .i64 q.mm] 53)).alloc (.cells #[.bool false] 4)).alloc (.cells #[.int .i64 0, .int .i64 0] 32)).alloc (.cells #[.slice (some ⟨lb, off, none⟩) len cap, .map (some mb)] 73)).alloc (.cells #[.int .i64 q.id] 3)) := by unfold CovI; simp [go_sem, fsum, okv, okp]
  have cq1 : ((((((w.alloc (.cells #[.slice (some ⟨lb, off, none⟩) len cap, .map (some mb)] 73)).alloc (.cells #[.int .i64 q.id, .int .i64 q.par, .int .i64 q.wt, .int .i64 q.qc, .int .i64 q.qm, .int .i64 q.mc, .int .i64 q.mm] 53)).alloc (.cells #[.bool false] 4)).alloc (.cells #[.int .i64 0, .int .i64 0] 32)).alloc (.cells #[.slice (some ⟨lb, off, none⟩) len cap, .map (some mb)] 73)).alloc (.cells #[.int .i64 q.id] 3)).cell? ⟨w.heap.size + 1, 5, none⟩ = some (.int .i64 q.mc) := by simp [go_sem]
  have cq2 : ((((((w.alloc (.cells #[.slice (some ⟨lb, off, none⟩) len cap, .map (some mb)] 73)).alloc (.cells #[.int .i64 q.id, .int .i64 q.par, .int .i64 q.wt, .int .i64 q.qc, .int .i64 q.qm, .int .i64 q.mc, .int .i64 q.mm] 53)).alloc (.cells #[.bool false] 4)).alloc (.cells #[.int .i64 0, .int .i64 0] 32)).alloc (.cells #[.slice (some ⟨lb, off, none⟩) len cap, .map (some mb)] 73)).alloc (.cells #[.int .i64 q.id] 3)).cell? ⟨w.heap.size + 1, 6, none⟩ = some (.int .i64 q.mm) := by simp [go_sem]
  have ct : ((((((w.alloc (.cells #[.slice (some ⟨lb, off, none⟩) len cap, .map (some mb)] 73)).alloc (.cells #[.int .i64 q.id, .int .i64 q.par, .int .i64 q.wt, .int .i64 q.qc, .int .i64 q.qm, .int .i64 q.mc, .int .i64 q.mm] 53)).alloc (.cells #[.bool false] 4)).alloc (.cells #[.int .i64 0, .int .i64 0] 32)).alloc (.cells #[.slice (some ⟨lb, off, none⟩) len cap, .map (some mb)] 73)).alloc (.cells #[.int .i64 q.id] 3)).cell? ⟨w.heap.size + 1 + 1 + 1 + 1, 0, none⟩ = some (.slice (some ⟨lb, off, none⟩) len cap) := by simp [go_sem]
  have ci : ((((((w.alloc (.cells #[.slice (some ⟨lb, off, none⟩) len cap, .map (some mb)] 73)).alloc (.cells #[.int .i64 q.id, .int .i64 q.par, .int .i64 q.wt, .int .i64 q.qc, .int .i64 q.qm, .int .i64 q.mc, .int .i64 q.mm] 53)).alloc (.cells #[.bool false] 4)).alloc (.cells #[.int .i64 0, .int .i64 0] 32)).alloc (.cells #[.slice (some ⟨lb, off, none⟩) len cap, .map (some mb)] 73)).alloc (.cells #[.int .i64 q.id] 3)).cell? ⟨w.heap.size + 1 + 1 + 1 + 1 + 1, 0, none⟩ = some (.int .i64 q.id) := by simp [go_sem]
  have hsz : ((((((w.alloc (.cells #[.slice (some ⟨lb, off, none⟩) len cap, .map (some mb)] 73)).alloc (.cells #[.int .i64 q.id, .int .i64 q.par, .int .i64 q.wt, .int .i64 q.qc, .int .i64 q.qm, .int .i64 q.mc, .int .i64 q.mm] 53)).alloc (.cells #[.bool false] 4)).alloc (.cells #[.int .i64 0, .int .i64 0] 32)).alloc (.cells #[.slice (some ⟨lb, off, none⟩) len cap, .map (some mb)] 73)).alloc (.cells #[.int .i64 q.id] 3)).heap.size = w.heap.size + 6 := by simp
  have hT0 := hT.below hB0
  have hlb := hT.row.1
  generalize hW0 : ((((((w.alloc (.cells #[.slice (some ⟨lb, off, none⟩) len cap, .map (some mb)] 73)).alloc (.cells #[.int .i64 q.id, .int .i64 q.par, .int .i64 q.wt, .int .i64 q.qc, .int .i64 q.qm, .int .i64 q.mc, .int .i64 q.mm] 53)).alloc (.cells #[.bool false] 4)).alloc (.cells #[.int .i64 0, .int .i64 0] 32)).alloc (.cells #[.slice (some ⟨lb, off, none⟩) len cap, .map (some mb)] 73)).alloc (.cells #[.int .i64 q.id] 3)) = W0 at *
  have HT := hid hT
  have HA := hid hA
  have HQ := hid hq
  clear hT hA hq
  have hlen := HT.out.hlen
  have hcap := HT.out.hcap
  have hle := HT.out.hle
  refine wpIn_rangeFunc_ownF rfl (by omega) (gf := 83) (lb := #[.pointer (some ⟨w.heap.size + 1 + 1 + 1 + 1, 0, none⟩), .pointer (some ⟨w.heap.size + 1 + 1 + 1 + 1 + 1, 0, none⟩)]) rfl trivial (enters_of Try.func83 (by kernel_rfl) rfl)
    (children_stops 4 (by omega) (w.heap.size + 1 + 1 + 1) W0.heap.size (w.heap.size + 1 + 1 + 1 + 1) (w.heap.size + 1 + 1 + 1 + 1 + 1) lb off len cap mb l q.id W0 hT0 ct ci (by omega) (by omega) (by omega) (by omega) (by omega) (by omega) (by omega)) kq_t (kq_b (Nat.le_refl _)) (Below.refl _ _) (fun _ => rfl)
    (fun pre W => (CovI w.heap.size lb off len cap l pre W ∧ W.cell? ⟨w.heap.size + 1, 5, none⟩ = some (.int .i64 q.mc) ∧ W.cell? ⟨w.heap.size + 1, 6, none⟩ = some (.int .i64 q.mm) ∧ w.heap.size + 1 + 1 + 1 + 1 + 1 < W.heap.size) ∧ Below w.heap.size w W)
    (fun j pre W => (j = .ret ∧ okv (fsum l Qu.mc pre, fsum l Qu.mm pre) = false ∧ W.cell? ⟨w.heap.size + 1 + 1, 0, none⟩ = some (.bool false)) ∧ Below w.heap.size w W)
    (OwnFrom.and (Own.from (fun s A B row hs hg hr => ⟨covI_own _ _ _ _ _ _ _ _ _ _ hs.1 hg hr, cell_kept hs.2.1 hg hr, cell_kept hs.2.2.1 hg hr, Nat.lt_of_lt_of_le hs.2.2.2 hg.size⟩) _) (ownFrom_below (Nat.le_refl _) (by omega)))
    (fun j => OwnFrom.and (Own.from (fun s A B row hs hg hr => ⟨hs.1, hs.2.1, cell_kept hs.2.2 hg hr⟩) _) (ownFrom_below (Nat.le_refl _) (by omega)))
    ⟨⟨st, cq1, cq2, by omega⟩, hB0⟩
    (fun x => { tmps := #[tv lb off len cap mb, .agg #[.int .i64 q.id, .int .i64 q.par, .int .i64 q.wt, .int .i64 q.qc, .int .i64 q.qm, .int .i64 q.mc, .int .i64 q.mm], .pointer (some ⟨w.heap.size, 0, none⟩), .pointer (some ⟨w.heap.size + 1, 0, none⟩), .pointer (some ⟨w.heap.size + 1 + 1, 0, none⟩), .pointer (some ⟨w.heap.size + 1 + 1 + 1, 0, none⟩), .int .i64 (x.val : Int), undef, .agg #[.slice (some ⟨lb, off, none⟩) len cap, .map (some mb)], .pointer (some ⟨w.heap.size + 1, 0, none⟩), .int .i64 q.id,
        .func (.func 83) #[] #[.pointer (some ⟨w.heap.size + 1 + 1 + 1 + 1, 0, none⟩), .pointer (some ⟨w.heap.size + 1 + 1 + 1 + 1 + 1, 0, none⟩)], .int .i64 (x.val : Int), undef, undef, undef, undef, undef, undef, undef, undef, undef, undef, undef, undef, undef, undef, undef, undef, undef], defers := [] }) ?assign ?body ?done ?stop
  case assign =>
    intro lp x W K hK
    gi_wp2
    exact hK
  case body =>
    rintro lp pre x W ⟨⟨hD, e1, e2, hsW⟩, hB⟩ _
    obtain ⟨h0, c0, c1, f0, f1, r0, g0, t0⟩ := hD
    have hAt := (HT.out.row.below hB).2 x.val x.2
    obtain ⟨a0, a1, a2, a3, a4, a5, a6⟩ := hAt
    clear a0 a1 a2 a3 a4
    have hv := (arg_at HA.out (qa_mem x.2)).2.2
    have E1 := hid (fsum_snoc l Qu.mc pre x)
    have E2 := hid (fsum_snoc l Qu.mm pre x)
    have xb : (x.val : Int) < (len : Int) := by have := x.2; omega
    have xa : (0 : Int) ≤ (x.val : Int) := by omega
    have xc : x.val < len := by omega
    generalize hC : fsum l Qu.mc pre = C at *
    generalize hM : fsum l Qu.mm pre = M at *
    generalize (qa l x.val).mc = D at *
    generalize (qa l x.val).mm = K at *
    clear hC hM
    generalize hx : x.val = xi at *
    have HX := hid hx
    clear hx
    cases h3 : okv (C + D, M + K)
    · have H1 := hid h0
      have H2 := hid hv
      have H3 := hid h3
      clear h0 hv h3
      gi_wp2_with fail
      gi_region_with (refine ⟨trivial, ?_⟩; gi_at_call 35; refine (CallsIn.inRound lp (callsIn_wide.2 (vadd_over C M D K _ H1.out H2.out H3.out))).mono ?_; rintro e w1 ⟨rfl, h1⟩; have d0 := keepc h1 c0; have d1 := keepc h1 c1; have u0 := keepf h1 c0 f0; have u1 := keepf h1 c1 f1; have s0 := keepc h1 r0; have v0 := keepf h1 r0 g0; clear c0 c1 f0 f1 r0 g0 e1 e2 t0 a5 a6)
      all_goals gi_wp2
      all_goals
        have k1 : Below W.heap.size W w1 := ⟨h1.os, h1.tape, h1.output, h1.size, h1.block⟩
        have hB1 := hB.trans (k1.mono hB.size)
        refine ⟨(keepsOthers_below' k1).trans (((KeepsOthers.setCell _ _ _).trans (KeepsOthers.setCell _ _ _)).trans (KeepsOthers.setCell _ _ _)), ⟨rfl, by rw [E1.out, E2.out]; exact H3.out, ?_⟩, ((hB1.setCell (p := ⟨w.heap.size + 1 + 1 + 1, 0, none⟩) (by simp <;> omega) _).setCell (p := ⟨w.heap.size + 1 + 1 + 1, 1, none⟩) (by simp <;> omega) _).setCell (p := ⟨w.heap.size + 1 + 1, 0, none⟩) (by simp <;> omega) _⟩
        simp [go_sem, s0]
    · have H1 := hid h0
      have H2 := hid hv
      have H3 := hid h3
      clear h0 hv h3
      gi_wp2_with fail
      gi_region_with (refine ⟨trivial, ?_⟩; gi_at_call 35; refine (CallsIn.inRound lp (callsIn_wide.2 (vadd_ok C M D K _ H1.out H2.out H3.out))).mono ?_; rintro e w1 ⟨rfl, h1⟩; have d0 := keepc h1 c0; have d1 := keepc h1 c1; have u0 := keepf h1 c0 f0; have u1 := keepf h1 c1 f1; have s0 := keepc h1 r0; have v0 := keepf h1 r0 g0; have y1 := keepc h1 e1; have y2 := keepc h1 e2; have z0 := keepc h1 t0; clear c0 c1 f0 f1 r0 g0 e1 e2 t0 a5 a6)
      all_goals gi_wp2
      all_goals
        have k1 : Below W.heap.size W w1 := ⟨h1.os, h1.tape, h1.output, h1.size, h1.block⟩
        have hB1 := hB.trans (k1.mono hB.size)
        refine ⟨(keepsOthers_below' k1).trans ((KeepsOthers.setCell _ _ _).trans (KeepsOthers.setCell _ _ _)), kq_set2 (kq_below k1 (by omega)), ⟨⟨by rw [E1.out, E2.out]; exact H3.out, ?_, ?_, ?_, ?_, ?_, ?_, ?_⟩, ?_, ?_, ?_⟩, (hB1.setCell (p := ⟨w.heap.size + 1 + 1 + 1, 0, none⟩) (by simp <;> omega) _).setCell (p := ⟨w.heap.size + 1 + 1 + 1, 1, none⟩) (by simp <;> omega) _⟩
        · rw [E1.out]; simp [go_sem, d0]
        · rw [E2.out]; simp [go_sem, d1]
        · simp [go_sem, u0]
        · simp [go_sem, u1]
        · simp [go_sem, s0]
        · simp [go_sem, v0]
        · simp [go_sem, z0]
        · simp [go_sem, y1]
        · simp [go_sem, y2]
        · have := k1.size; simp; omega
  case done =>
    rintro D ys W hD rfl ⟨⟨hI, e1, e2, hsW⟩, hB⟩ hK
    obtain ⟨h0, c0, c1, f0, f1, r0, g0, t0⟩ := hI
    have EK := kids_sum l q.id
    rw [EK.1] at c0 h0
    rw [EK.2] at c1 h0
    have SK := hid EK
    clear EK
    generalize hC : sumc l q.id = C at *
    generalize hM : summ l q.id = M at *
    gi_wp2_with fail
    refine ⟨trivial, ?_⟩
    refine (callsIn_wide.2 (fits_any C M q.mc q.mm _)).mono ?_
    rintro e w1 ⟨rfl, h1⟩
    have s0 := keepc h1 r0
    have v0 := keepf h1 r0 g0
    have hB1 := hB.trans (h1.mono hB.size)
    have hKD := (keepsOthers_below' h1).same D _ hK rfl
    clear c0 c1 f0 f1 r0 g0 t0 e1 e2
    gi_wp2
    have hK' := (KeepsOthers.setCell w1 ⟨w.heap.size + 1 + 1, 0, none⟩ (.bool (fitB C M q.mc q.mm))).same D _ hKD rfl
    refine ⟨by simp, .inl ⟨_, _, rfl, run_takeDeferred hK', ?_⟩⟩
    have hc5 := cell_kept (World.cell?_setCell_same' w1 ⟨w.heap.size + 1 + 1, 0, none⟩ (.bool (fitB C M q.mc q.mm)) (by rw [s0]; rfl)) (grownBy_putObj' _ D (.deferred none)) (fun r e => by cases e; exact ⟨_, hK', rfl⟩)
    refine ⟨.bool (fitB C M q.mc q.mm), ?_, by rw [← hC, ← hM]; rfl, (hB1.setCell (p := ⟨w.heap.size + 1 + 1, 0, none⟩) (by simp <;> omega) _).trans (belowK_b (w := w) (Nat.le_refl _) _ D _ _ (by omega) hK' rfl rfl)⟩
    simp [results, Try.f56, go_sem, hc5]
  case stop =>
    rintro D j pre W hD ⟨hp1, hp2⟩ ⟨⟨rfl, hno, hc⟩, hB⟩ hK
    gi_wp2
    refine ⟨by simp, .inl ⟨_, _, rfl, run_takeDeferred hK, ?_⟩⟩
    have hc5 := cell_kept hc (grownBy_putObj' _ D (.deferred none)) (fun r e => by cases e; exact ⟨_, hK, rfl⟩)
    have hf : (decide (sumc l q.id ≤ q.mc) && decide (summ l q.id ≤ q.mm)) = false := by
      have h1 := fsum_pre HA.out hp2
      have h2 := fsum_nonneg HA.out pre
      have h3 := kids_sum l q.id
      have h4 := okv_true HQ.out
      have h5 := okv_false hno
      unfold okp at h4 h5
      simp only at h4 h5
      rw [h3.1, h3.2] at h1
      simp
      omega
    refine ⟨.bool false, ?_, by rw [hf], hB.trans (belowK_b (w := w) (Nat.le_refl _) W D _ _ (by omega) hK rfl rfl)⟩
    simp [results, Try.f56, go_sem, hc5]

theorem covers_any (lb off len cap mb : Nat) (l : List Qu) (q : Qu) (w : World) (hT : Tree w lb off len cap mb l) (hA : argB l = true) (hq : okv (q.mc, q.mm) = true) :
    Calls Try.prog 56 #[tv lb off len cap mb, .agg #[.int .i64 q.id, .int .i64 q.par, .int .i64 q.wt, .int .i64 q.qc, .int .i64 q.qm, .int .i64 q.mc, .int .i64 q.mm]] w fun e W' => e = .returned (.bool (decide (sumc l q.id ≤ q.mc) && decide (summ l q.id ≤ q.mm))) ∧ Below w.heap.size w W' := callsIn_wide.1 (covers_in lb off len cap mb l q w hT hA hq)

end Go.Proofs.Ytdbkjcnanffibaa
