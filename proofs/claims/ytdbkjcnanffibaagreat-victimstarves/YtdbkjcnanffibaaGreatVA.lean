/-
  Contracts of vec: the iterators, Check, Fits.
-/
import Derived.Test.YtdbkjcnanffibaaGreatWE
import Derived.RangeFuncNested
import Derived.RangeFuncBound
import Derived.RangeFuncCalls
import Derived.RangeFuncLeaves
import Derived.Shelf.Abstract
import Derived.Shelf.RegionOpen
import Derived.WalkKit
import Derived.OwnWalkIn
import Derived.TacticsInMore
import Derived.LoopNIn
import Derived.LoopIn
namespace Go.Proofs.YtdbkjcnanffibaaGreat
open Go.RowKit Go.Shelf
set_option linter.unusedVariables false
attribute [local go_sem] Oper.semAt_some

set_option maxHeartbeats 1000000 in
theorem parts_any (c m : Int) (w : World) :
    Calls Tryz.prog 40 #[.agg #[.int .i64 c, .int .i64 m]] w fun e w' => e = .returned (.func (.func 62) #[] #[.pointer (some ⟨w.heap.size, 0, none⟩)]) ∧ w.alloc (.cells #[.int .i64 c, .int .i64 m] 33) = w' := by
  go_enter Tryz.func40, Tryz.ntmps40
  go_wp2
  go_ret
  exact ⟨rfl, rfl⟩

abbrev encI (x : Int) : Array Value := #[.int .i64 x]

set_option maxHeartbeats 1000000 in
theorem parts_stops (n : Nat) (hn : 1 ≤ n) (Bn n₀ : Nat) (c m : Int) (w : World) (hB : Bn < n₀) (hBw : Bn < w.heap.size) (h0 : w.cell? ⟨Bn, 0, none⟩ = some (.int .i64 c)) (h1 : w.cell? ⟨Bn, 1, none⟩ = some (.int .i64 m)) :
    SeqStopsK Fence.wide n Tryz.prog 62 #[.pointer (some ⟨Bn, 0, none⟩)] encI (Below n₀) (fun xs => xs = [c, m]) (fun pre => pre = [c] ∨ pre = [c, m]) 2 w := fun l J Jx W hW hJ hJx hY hj => by
  refine callsIn_of_wp Tryz.func62 rfl trivial ?_ rfl
  simp only [Tryz.ntmps62, List.size_toArray, List.length_cons, List.length_nil, Nat.reduceAdd, Nat.reduceSub, Array.replicate_succ, Array.replicate_zero, List.push_toArray, List.append_toArray, List.nil_append, List.cons_append]
  have c0 : W.cell? ⟨Bn, 0, none⟩ = some (.int .i64 c) := (hW.cell (p := ⟨Bn, 0, none⟩) hBw).trans h0
  have c1 : W.cell? ⟨Bn, 1, none⟩ = some (.int .i64 m) := (hW.cell (p := ⟨Bn, 1, none⟩) hBw).trans h1
  obtain ⟨f1, t1, a1, b1, hy1, hR1⟩ := hY [] c W hj (by simp)
  dsimp only [encI] at hy1
  gi_wp2
  refine hR1.mono ?_
  rintro e W1 (⟨rfl, hJ1, hk1⟩ | ⟨rfl, hx1⟩)
  · have d1 : W1.cell? ⟨Bn, 1, none⟩ = some (.int .i64 m) := (hk1.cell (p := ⟨Bn, 1, none⟩) hB).trans c1
    obtain ⟨f2, t2, a2, b2, hy2, hR2⟩ := hY [c] m W1 hJ1 (by simp)
    dsimp only [encI] at hy2
    gi_wp2
    refine hR2.mono ?_
    rintro e W2 (⟨rfl, hJ2, _⟩ | ⟨rfl, hx2⟩)
    · gi_wp2
      go_end0
      exact ⟨⟨_, rfl⟩, .inl ⟨_, rfl, hJ2⟩⟩
    · gi_wp2
      go_end0
      exact ⟨⟨_, rfl⟩, .inr ⟨_, .inr rfl, hx2⟩⟩
  · gi_wp2
    go_end0
    exact ⟨⟨_, rfl⟩, .inr ⟨_, .inl rfl, hx1⟩⟩

/-- Is a part within its range? -/
def okp (x : Int) : Prop := 0 ≤ x ∧ x ≤ 1099511627776
instance (x : Int) : Decidable (okp x) := inferInstanceAs (Decidable (_ ∧ _))
/-- Check's answer. -/
def chk (c m : Int) : Int := if okp c ∧ okp m then 0 else 1

set_option maxRecDepth 100000 in
set_option maxHeartbeats 2000000 in
theorem check_in (c m : Int) (w : World) :
    CallsIn Fence.wide 5 Tryz.prog 22 #[.agg #[.int .i64 c, .int .i64 m]] w fun e W' => e = .returned (.int .i64 (chk c m)) ∧ Below w.heap.size w W' := by
  refine callsIn_of_wp_marks Tryz.func22 rfl trivial ?_ rfl
  simp only [Tryz.ntmps22, List.size_toArray, List.length_cons, List.length_nil, Nat.reduceAdd, Nat.reduceSub, Array.replicate_succ, Array.replicate_zero, List.push_toArray, List.append_toArray, List.nil_append, List.cons_append]
  gi_wp2_with (refine ⟨trivial, ?_⟩; gi_at_call 40; refine (callsIn_wide.2 (parts_any c m _)).mono ?_; rintro e w' ⟨rfl, rfl⟩)
  have cr : (((w.alloc (.cells #[.int .i64 c, .int .i64 m] 33)).alloc (.cells #[.int .i64 0] 27)).alloc (.cells #[.int .i64 c, .int .i64 m] 33)).cell? ⟨w.heap.size + 1, 0, none⟩ = some (.int .i64 0) := by simp [go_sem]
  have fr : (((w.alloc (.cells #[.int .i64 c, .int .i64 m] 33)).alloc (.cells #[.int .i64 0] 27)).alloc (.cells #[.int .i64 c, .int .i64 m] 33)).frozen? ⟨w.heap.size + 1, 0, none⟩ = false := by simp [go_sem]
  have b0 : (((w.alloc (.cells #[.int .i64 c, .int .i64 m] 33)).alloc (.cells #[.int .i64 0] 27)).alloc (.cells #[.int .i64 c, .int .i64 m] 33)).cell? ⟨w.heap.size + 1 + 1, 0, none⟩ = some (.int .i64 c) := by simp [go_sem]
  have b1 : (((w.alloc (.cells #[.int .i64 c, .int .i64 m] 33)).alloc (.cells #[.int .i64 0] 27)).alloc (.cells #[.int .i64 c, .int .i64 m] 33)).cell? ⟨w.heap.size + 1 + 1, 1, none⟩ = some (.int .i64 m) := by simp [go_sem]
  have hB0 : Below w.heap.size w (((w.alloc (.cells #[.int .i64 c, .int .i64 m] 33)).alloc (.cells #[.int .i64 0] 27)).alloc (.cells #[.int .i64 c, .int .i64 m] 33)) := (by repeat (first | exact Below.refl _ _ | assumption | refine Below.alloc ?_ (by simp <;> omega) _ | refine Below.setCell ?_ (by simp <;> omega) _ | refine Below.drew ?_ | refine below_drewN ?_ _))
  refine wpIn_rangeFunc_ownF rfl (by omega) (gf := 62) (lb := #[.pointer (some ⟨w.heap.size + 1 + 1, 0, none⟩)]) rfl trivial (enters_of Tryz.func62 (by kernel_rfl) rfl)
    (parts_stops 4 (by omega) (w.heap.size + 1 + 1) (w.heap.size + 1 + 1 + 1) c m _ (by omega) (by simp) b0 b1) belowK_t (belowK_b (by simp)) (Below.refl _ _) (fun _ => rfl)
    (fun pre W => ((∀ y ∈ pre, okp y) ∧ W.cell? ⟨w.heap.size + 1, 0, none⟩ = some (.int .i64 0) ∧ W.frozen? ⟨w.heap.size + 1, 0, none⟩ = false) ∧ Below w.heap.size w W)
    (fun k pre W => (k = .ret ∧ (∃ y ∈ pre, ¬ okp y) ∧ W.cell? ⟨w.heap.size + 1, 0, none⟩ = some (.int .i64 1)) ∧ Below w.heap.size w W)
    (OwnFrom.and (Own.from (fun s A B row hs hg hr => ⟨hs.1, cell_kept hs.2.1 hg hr, (frozen_kept hs.2.1 hg hr).trans hs.2.2⟩) _) (ownFrom_below (Nat.le_refl _) (by simp; omega)))
    (fun k => OwnFrom.and (Own.from (fun s A B row hs hg hr => ⟨hs.1, hs.2.1, cell_kept hs.2.2 hg hr⟩) _) (ownFrom_below (Nat.le_refl _) (by simp; omega)))
    ⟨⟨by simp, cr, fr⟩, hB0⟩
    (fun x => { tmps := #[.agg #[.int .i64 c, .int .i64 m], .pointer (some ⟨w.heap.size, 0, none⟩), .pointer (some ⟨w.heap.size + 1, 0, none⟩), .int .i64 x, .agg #[.int .i64 c, .int .i64 m], .func (.func 62) #[] #[.pointer (some ⟨w.heap.size + 1 + 1, 0, none⟩)], .int .i64 x, undef, undef, undef, undef, undef, undef], defers := [] }) ?assign ?body ?done ?stop
  case assign =>
    intro l x W K hK
    gi_wp2
    exact hK
  case body =>
    rintro l pre x W ⟨⟨hp, hc, hf⟩, hB⟩ _
    by_cases h0 : x < 0
    · have t0 : decide (x < 0) = true := by simp; omega
      gi_wp2
      exact ⟨KeepsOthers.setCell _ _ _, ⟨rfl, ⟨x, by simp, by unfold okp; omega⟩, World.cell?_setCell_same' _ _ _ (by rw [hc]; rfl)⟩, hB.setCell (p := ⟨w.heap.size + 1, 0, none⟩) (by simp) _⟩
    · have t0 : decide (x < 0) = false := by simp; omega
      by_cases h1 : 1099511627776 < x
      · have t1 : decide (1099511627776 < x) = true := by simp; omega
        gi_wp2
        exact ⟨KeepsOthers.setCell _ _ _, ⟨rfl, ⟨x, by simp, by unfold okp; omega⟩, World.cell?_setCell_same' _ _ _ (by rw [hc]; rfl)⟩, hB.setCell (p := ⟨w.heap.size + 1, 0, none⟩) (by simp) _⟩
      · have t1 : decide (1099511627776 < x) = false := by simp; omega
        gi_wp2
        exact ⟨KeepsOthers.refl _, Below.refl _ _, ⟨fun y hy => (List.mem_append.1 hy).elim (hp y) (fun e => by simp at e; subst e; unfold okp; omega), hc, hf⟩, hB⟩
  case done =>
    rintro D ys W hD rfl ⟨⟨hp, hc, hf⟩, hB⟩ hK
    gi_wp2
    have hK' := (KeepsOthers.setCell W ⟨w.heap.size + 1, 0, none⟩ (.int .i64 0)).same D _ hK rfl
    refine ⟨by simp, .inl ⟨_, _, rfl, run_takeDeferred hK', ?_⟩⟩
    have hc5 := cell_kept (World.cell?_setCell_same' W ⟨w.heap.size + 1, 0, none⟩ (.int .i64 0) (by rw [hc]; rfl)) (grownBy_putObj' _ D (.deferred none)) (fun r e => by cases e; exact ⟨_, hK', rfl⟩)
    refine ⟨.int .i64 0, ?_, by rw [show chk c m = 0 by unfold chk; rw [if_pos ⟨hp c (by simp), hp m (by simp)⟩]], (hB.setCell (p := ⟨w.heap.size + 1, 0, none⟩) (by simp) _).trans (belowK_b (w := w) (Nat.le_refl _) _ D _ _ (by simp at hD; omega) hK' rfl rfl)⟩
    simp [results, Tryz.f22, go_sem, hc5]
  case stop =>
    rintro D k pre W hD hpre ⟨⟨rfl, ⟨y, hy, hny⟩, hc⟩, hB⟩ hK
    gi_wp2
    refine ⟨by simp, .inl ⟨_, _, rfl, run_takeDeferred hK, ?_⟩⟩
    have hc5 := cell_kept hc (grownBy_putObj' _ D (.deferred none)) (fun r e => by cases e; exact ⟨_, hK, rfl⟩)
    have hno : ¬ (okp c ∧ okp m) := by
      rintro ⟨o1, o2⟩
      rcases hpre with rfl | rfl
      · simp at hy; subst hy; exact hny o1
      · simp at hy; rcases hy with rfl | rfl
        · exact hny o1
        · exact hny o2
    refine ⟨.int .i64 1, ?_, by rw [show chk c m = 1 by unfold chk; rw [if_neg hno]], hB.trans (belowK_b (w := w) (Nat.le_refl _) W D _ _ (by simp at hD; omega) hK rfl rfl)⟩
    simp [results, Tryz.f22, go_sem, hc5]

theorem check_any (c m : Int) (w : World) :
    Calls Tryz.prog 22 #[.agg #[.int .i64 c, .int .i64 m]] w fun e W' => e = .returned (.int .i64 (chk c m)) ∧ Below w.heap.size w W' := callsIn_wide.1 (check_in c m w)

end Go.Proofs.YtdbkjcnanffibaaGreat
