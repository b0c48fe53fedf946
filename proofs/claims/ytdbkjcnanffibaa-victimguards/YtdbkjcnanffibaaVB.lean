/-
  Contracts of vec: pairs, Fits.
-/
import Derived.Test.YtdbkjcnanffibaaVA
namespace Go.Proofs.Ytdbkjcnanffibaa
open Go.RowKit Go.Shelf
set_option linter.unusedVariables false
attribute [local go_sem] Oper.semAt_some

set_option maxHeartbeats 1000000 in
theorem pairs_any (c m d k : Int) (w : World) :
    Calls Try.prog 33 #[.agg #[.int .i64 c, .int .i64 m], .agg #[.int .i64 d, .int .i64 k]] w fun e w' => e = .returned (.func (.func 47) #[] #[.pointer (some ⟨w.heap.size, 0, none⟩), .pointer (some ⟨w.heap.size + 1, 0, none⟩)]) ∧
      (w.alloc (.cells #[.int .i64 c, .int .i64 m] 32)).alloc (.cells #[.int .i64 d, .int .i64 k] 32) = w' := by
  go_enter Try.func33, Try.ntmps33
  go_wp2
  go_ret
  exact ⟨rfl, rfl⟩

abbrev encP (x : Int × Int) : Array Value := #[.int .i64 x.1, .int .i64 x.2]

/-- A round that goes on keeps the two amounts' cells. -/
def KeepTwo (B : Nat) (A W : World) : Prop := ∀ o, W.cell? ⟨B, o, none⟩ = A.cell? ⟨B, o, none⟩ ∧ W.cell? ⟨B + 1, o, none⟩ = A.cell? ⟨B + 1, o, none⟩
theorem keepTwo_t {B : Nat} {X Y Z : World} (h : KeepTwo B X Y) (k : KeepTwo B Y Z) : KeepTwo B X Z := fun o => ⟨(k o).1.trans (h o).1, (k o).2.trans (h o).2⟩
theorem keepTwo_below {B n : Nat} {X Y : World} (h : Below n X Y) (hn : B + 1 < n) : KeepTwo B X Y := fun o => ⟨h.cell (p := ⟨B, o, none⟩) (by show B < n; omega), h.cell (p := ⟨B + 1, o, none⟩) hn⟩
theorem keepTwo_b {B : Nat} {w : World} (hB : B + 1 < w.heap.size) (W : World) (l : Nat) (o o' : Obj) (hl : w.heap.size ≤ l) (h : W.heap[l]? = some o) (h1 : o.isCells = false) (h2 : o.isWalk = false) : KeepTwo B W (W.putObj l o') :=
  keepTwo_below (belowK_b (n₀ := w.heap.size) (Nat.le_refl _) W l o o' hl h h1 h2) hB

set_option maxHeartbeats 1000000 in
theorem pairs_stops (n : Nat) (hn : 1 ≤ n) (Bn : Nat) (c m d k : Int) (w : World) (hBw : Bn + 1 < w.heap.size)
    (h0 : w.cell? ⟨Bn, 0, none⟩ = some (.int .i64 c)) (h1 : w.cell? ⟨Bn, 1, none⟩ = some (.int .i64 m)) (g0 : w.cell? ⟨Bn + 1, 0, none⟩ = some (.int .i64 d)) (g1 : w.cell? ⟨Bn + 1, 1, none⟩ = some (.int .i64 k)) :
    SeqStopsK Fence.wide n Try.prog 47 #[.pointer (some ⟨Bn, 0, none⟩), .pointer (some ⟨Bn + 1, 0, none⟩)] encP (KeepTwo Bn) (fun xs => xs = [(c, d), (m, k)]) (fun pre => pre = [(c, d)] ∨ pre = [(c, d), (m, k)]) 2 w := fun l J Jx W hW hJ hJx hY hj => by
  refine callsIn_of_wp Try.func47 rfl trivial ?_ rfl
  simp only [Try.ntmps47, List.size_toArray, List.length_cons, List.length_nil, Nat.reduceAdd, Nat.reduceSub, Array.replicate_succ, Array.replicate_zero, List.push_toArray, List.append_toArray, List.nil_append, List.cons_append]
  have c0 : W.cell? ⟨Bn, 0, none⟩ = some (.int .i64 c) := (hW.cell (p := ⟨Bn, 0, none⟩) (by show Bn < _; omega)).trans h0
  have c1 : W.cell? ⟨Bn, 1, none⟩ = some (.int .i64 m) := (hW.cell (p := ⟨Bn, 1, none⟩) (by show Bn < _; omega)).trans h1
  have e0 : W.cell? ⟨Bn + 1, 0, none⟩ = some (.int .i64 d) := (hW.cell (p := ⟨Bn + 1, 0, none⟩) hBw).trans g0
  have e1 : W.cell? ⟨Bn + 1, 1, none⟩ = some (.int .i64 k) := (hW.cell (p := ⟨Bn + 1, 1, none⟩) hBw).trans g1
  obtain ⟨f1, t1, a1, b1, hy1, hR1⟩ := hY [] (c, d) W hj (by simp)
  dsimp only [encP] at hy1
  gi_wp2
  refine hR1.mono ?_
  rintro e W1 (⟨rfl, hJ1, hk1⟩ | ⟨rfl, hx1⟩)
  · have d1 : W1.cell? ⟨Bn, 1, none⟩ = some (.int .i64 m) := (hk1 1).1.trans c1
    have d2 : W1.cell? ⟨Bn + 1, 1, none⟩ = some (.int .i64 k) := (hk1 1).2.trans e1
    obtain ⟨f2, t2, a2, b2, hy2, hR2⟩ := hY [(c, d)] (m, k) W1 hJ1 (by simp)
    dsimp only [encP] at hy2
    gi_wp2
    refine hR2.mono ?_
    rintro e W2 (⟨rfl, hJ2, _⟩ | ⟨rfl, hx2⟩)
    · gi_wp2
      go_end0
      exact ⟨⟨_, rfl⟩, .inl ⟨_, rfl, hJ2⟩⟩
    · gi_wp2
      go_end0
      exact ⟨⟨_, rfl⟩, .inr ⟨_, .inr rfl, hx2⟩⟩
  · gi_wp2
    go_end0
    exact ⟨⟨_, rfl⟩, .inr ⟨_, .inl rfl, hx1⟩⟩

/-- No first number is above its second; one is. -/
def AllLe (pre : List (Int × Int)) : Prop := ∀ y ∈ pre, y.1 ≤ y.2
def SomeGt (pre : List (Int × Int)) : Prop := ∃ y ∈ pre, y.2 < y.1
theorem allLe_nil : AllLe [] := fun y hy => by cases hy
theorem AllLe.snoc {pre : List (Int × Int)} {x : Int × Int} (h : AllLe pre) (hx : x.1 ≤ x.2) : AllLe (pre ++ [x]) := fun y hy =>
  (List.mem_append.1 hy).elim (h y) (fun e => by rw [List.mem_singleton.1 e]; exact hx)

/-- Fits's answer. -/
def fitB (c m d k : Int) : Bool := decide (c ≤ d) && decide (m ≤ k)

set_option maxRecDepth 100000 in
set_option maxHeartbeats 2000000 in
theorem fits_in (c m d k : Int) (w : World) :
    CallsIn Fence.wide 5 Try.prog 20 #[.agg #[.int .i64 c, .int .i64 m], .agg #[.int .i64 d, .int .i64 k]] w fun e W' => e = .returned (.bool (fitB c m d k)) ∧ Below w.heap.size w W' := by
  refine callsIn_of_wp_marks Try.func20 rfl trivial ?_ rfl
  simp only [Try.ntmps20, List.size_toArray, List.length_cons, List.length_nil, Nat.reduceAdd, Nat.reduceSub, Array.replicate_succ, Array.replicate_zero, List.push_toArray, List.append_toArray, List.nil_append, List.cons_append]
  gi_wp2_with (refine ⟨trivial, ?_⟩; gi_at_call 33; refine (callsIn_wide.2 (pairs_any c m d k _)).mono ?_; rintro e w' ⟨rfl, rfl⟩)
  have cr : (((((w.alloc (.cells #[.int .i64 c, .int .i64 m] 32)).alloc (.cells #[.int .i64 d, .int .i64 k] 32)).alloc (.cells #[.bool false] 4)).alloc (.cells #[.int .i64 c, .int .i64 m] 32)).alloc (.cells #[.int .i64 d, .int .i64 k] 32)).cell? ⟨w.heap.size + 1 + 1, 0, none⟩ = some (.bool false) := by simp [go_sem]
  have fr : (((((w.alloc (.cells #[.int .i64 c, .int .i64 m] 32)).alloc (.cells #[.int .i64 d, .int .i64 k] 32)).alloc (.cells #[.bool false] 4)).alloc (.cells #[.int .i64 c, .int .i64 m] 32)).alloc (.cells #[.int .i64 d, .int .i64 k] 32)).frozen? ⟨w.heap.size + 1 + 1, 0, none⟩ = false := by simp [go_sem]
  have b0 : (((((w.alloc (.cells #[.int .i64 c, .int .i64 m] 32)).alloc (.cells #[.int .i64 d, .int .i64 k] 32)).alloc (.cells #[.bool false] 4)).alloc (.cells #[.int .i64 c, .int .i64 m] 32)).alloc (.cells #[.int .i64 d, .int .i64 k] 32)).cell? ⟨w.heap.size + 1 + 1 + 1, 0, none⟩ = some (.int .i64 c) := by simp [go_sem]
  have b1 : (((((w.alloc (.cells #[.int .i64 c, .int .i64 m] 32)).alloc (.cells #[.int .i64 d, .int .i64 k] 32)).alloc (.cells #[.bool false] 4)).alloc (.cells #[.int .i64 c, .int .i64 m] 32)).alloc (.cells #[.int .i64 d, .int .i64 k] 32)).cell? ⟨w.heap.size + 1 + 1 + 1, 1, none⟩ = some (.int .i64 m) := by simp [go_sem]
  have e0 : (((((w.alloc (.cells #[.int .i64 c, .int .i64 m] 32)).alloc (.cells #[.int .i64 d, .int .i64 k] 32)).alloc (.cells #[.bool false] 4)).alloc (.cells #[.int .i64 c, .int .i64 m] 32)).alloc (.cells #[.int .i64 d, .int .i64 k] 32)).cell? ⟨w.heap.size + 1 + 1 + 1 + 1, 0, none⟩ = some (.int .i64 d) := by simp [go_sem]
  have e1 : (((((w.alloc (.cells #[.int .i64 c, .int .i64 m] 32)).alloc (.cells #[.int .i64 d, .int .i64 k] 32)).alloc (.cells #[.bool false] 4)).alloc (.cells #[.int .i64 c, .int .i64 m] 32)).alloc (.cells #[.int .i64 d, .int .i64 k] 32)).cell? ⟨w.heap.size + 1 + 1 + 1 + 1, 1, none⟩ = some (.int .i64 k) := by simp [go_sem]
  have hB0 : Below w.heap.size w (((((w.alloc (.cells #[.int .i64 c, .int .i64 m] 32)).alloc (.cells #[.int .i64 d, .int .i64 k] 32)).alloc (.cells #[.bool false] 4)).alloc (.cells #[.int .i64 c, .int .i64 m] 32)).alloc (.cells #[.int .i64 d, .int .i64 k] 32)) := (by repeat (first | exact Below.refl _ _ | assumption | refine Below.alloc ?_ (by simp <;> omega) _ | refine Below.setCell ?_ (by simp <;> omega) _ | refine Below.drew ?_ | refine below_drewN ?_ _))
  refine wpIn_rangeFunc_ownF rfl (by omega) (gf := 47) (lb := #[.pointer (some ⟨w.heap.size + 1 + 1 + 1, 0, none⟩), .pointer (some ⟨w.heap.size + 1 + 1 + 1 + 1, 0, none⟩)]) rfl trivial (enters_of Try.func47 (by kernel_rfl) rfl)
    (pairs_stops 4 (by omega) (w.heap.size + 1 + 1 + 1) c m d k _ (by simp) b0 b1 e0 e1) keepTwo_t (keepTwo_b (by simp)) (Below.refl _ _) (fun _ => rfl)
    (fun pre W => (AllLe pre ∧ W.cell? ⟨w.heap.size + 1 + 1, 0, none⟩ = some (.bool false) ∧ W.frozen? ⟨w.heap.size + 1 + 1, 0, none⟩ = false) ∧ Below w.heap.size w W)
    (fun j pre W => (j = .ret ∧ SomeGt pre ∧ W.cell? ⟨w.heap.size + 1 + 1, 0, none⟩ = some (.bool false)) ∧ Below w.heap.size w W)
    (OwnFrom.and (Own.from (fun s A B row hs hg hr => ⟨hs.1, cell_kept hs.2.1 hg hr, (frozen_kept hs.2.1 hg hr).trans hs.2.2⟩) _) (ownFrom_below (Nat.le_refl _) (by simp; omega)))
    (fun j => OwnFrom.and (Own.from (fun s A B row hs hg hr => ⟨hs.1, hs.2.1, cell_kept hs.2.2 hg hr⟩) _) (ownFrom_below (Nat.le_refl _) (by simp; omega)))
    ⟨⟨allLe_nil, cr, fr⟩, hB0⟩
    (fun x => { tmps := #[.agg #[.int .i64 c, .int .i64 m], .agg #[.int .i64 d, .int .i64 k], .pointer (some ⟨w.heap.size, 0, none⟩), .pointer (some ⟨w.heap.size + 1, 0, none⟩), .pointer (some ⟨w.heap.size + 1 + 1, 0, none⟩), .int .i64 x.1, .int .i64 x.2, .agg #[.int .i64 c, .int .i64 m], .agg #[.int .i64 d, .int .i64 k], .func (.func 47) #[] #[.pointer (some ⟨w.heap.size + 1 + 1 + 1, 0, none⟩), .pointer (some ⟨w.heap.size + 1 + 1 + 1 + 1, 0, none⟩)], .int .i64 x.1, .int .i64 x.2, undef, undef, undef], defers := [] }) ?assign ?body ?done ?stop
  case assign =>
    intro l x W K hK
    gi_wp2
    exact hK
  case body =>
    rintro l pre x W ⟨⟨hp, hc, hf⟩, hB⟩ _
    by_cases h0 : x.2 < x.1
    · have t0 : decide (x.2 < x.1) = true := by simp; omega
      gi_wp2
      exact ⟨KeepsOthers.setCell _ _ _, ⟨rfl, ⟨x, List.mem_append.2 (.inr (List.mem_singleton.2 rfl)), h0⟩, World.cell?_setCell_same' _ _ _ (by rw [hc]; rfl)⟩, hB.setCell (p := ⟨w.heap.size + 1 + 1, 0, none⟩) (by simp; omega) _⟩
    · have t0 : decide (x.2 < x.1) = false := by simp; omega
      gi_wp2
      exact ⟨KeepsOthers.refl _, fun _ => ⟨rfl, rfl⟩, ⟨hp.snoc (by omega), hc, hf⟩, hB⟩
  case done =>
    rintro D ys W hD rfl ⟨⟨hp, hc, hf⟩, hB⟩ hK
    gi_wp2
    have hK' := (KeepsOthers.setCell W ⟨w.heap.size + 1 + 1, 0, none⟩ (.bool true)).same D _ hK rfl
    refine ⟨by simp, .inl ⟨_, _, rfl, run_takeDeferred hK', ?_⟩⟩
    have hc5 := cell_kept (World.cell?_setCell_same' W ⟨w.heap.size + 1 + 1, 0, none⟩ (.bool true) (by rw [hc]; rfl)) (grownBy_putObj' _ D (.deferred none)) (fun r e => by cases e; exact ⟨_, hK', rfl⟩)
    have p1 := hp (c, d) (by simp)
    have p2 := hp (m, k) (by simp)
    refine ⟨.bool true, ?_, by rw [show fitB c m d k = true by unfold fitB; simp only at p1 p2; simp [p1, p2]], (hB.setCell (p := ⟨w.heap.size + 1 + 1, 0, none⟩) (by simp; omega) _).trans (belowK_b (w := w) (Nat.le_refl _) _ D _ _ (by simp at hD; omega) hK' rfl rfl)⟩
    simp [results, Try.f20, go_sem, hc5]
  case stop =>
    rintro D j pre W hD hpre ⟨⟨rfl, ⟨y, hy, hny⟩, hc⟩, hB⟩ hK
    gi_wp2
    refine ⟨by simp, .inl ⟨_, _, rfl, run_takeDeferred hK, ?_⟩⟩
    have hc5 := cell_kept hc (grownBy_putObj' _ D (.deferred none)) (fun r e => by cases e; exact ⟨_, hK, rfl⟩)
    have hno : fitB c m d k = false := by
      have hy' : y = (c, d) ∨ y = (m, k) := by
        rcases hpre with rfl | rfl
        · simp at hy; exact .inl hy
        · simp at hy; exact hy
      unfold fitB
      rcases hy' with rfl | rfl
      · simp only at hny; simp [show ¬ c ≤ d by omega]
      · simp only at hny; simp [show ¬ m ≤ k by omega]
    refine ⟨.bool false, ?_, by rw [hno], hB.trans (belowK_b (w := w) (Nat.le_refl _) W D _ _ (by simp at hD; omega) hK rfl rfl)⟩
    simp [results, Try.f20, go_sem, hc5]

theorem fits_any (c m d k : Int) (w : World) :
    Calls Try.prog 20 #[.agg #[.int .i64 c, .int .i64 m], .agg #[.int .i64 d, .int .i64 k]] w fun e W' => e = .returned (.bool (fitB c m d k)) ∧ Below w.heap.size w W' := callsIn_wide.1 (fits_in c m d k w)

end Go.Proofs.Ytdbkjcnanffibaa
