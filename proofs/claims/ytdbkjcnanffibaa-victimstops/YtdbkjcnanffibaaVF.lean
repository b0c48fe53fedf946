/-
  Contracts of vec: the dominant share.
-/
import Derived.Test.YtdbkjcnanffibaaVE
namespace Go.Proofs.Ytdbkjcnanffibaa
open Go.RowKit Go.Shelf
set_option linter.unusedVariables false
attribute [local go_sem] Oper.semAt_some

/-- Two parts of amounts, side by side. -/
abbrev Am := { x : Int × Int // okp x.1 ∧ okp x.2 }
abbrev encS (x : Am) : Array Value := #[.int .i64 x.1.1, .int .i64 x.1.2]

set_option maxHeartbeats 1000000 in
theorem pairs_stopsS (n : Nat) (hn : 1 ≤ n) (Bn : Nat) (c m d k : Int) (o1 : okp c ∧ okp d) (o2 : okp m ∧ okp k) (w : World) (hBw : Bn + 1 < w.heap.size)
    (h0 : w.cell? ⟨Bn, 0, none⟩ = some (.int .i64 c)) (h1 : w.cell? ⟨Bn, 1, none⟩ = some (.int .i64 m)) (g0 : w.cell? ⟨Bn + 1, 0, none⟩ = some (.int .i64 d)) (g1 : w.cell? ⟨Bn + 1, 1, none⟩ = some (.int .i64 k)) :
    SeqStopsK Fence.wide n Try.prog 47 #[.pointer (some ⟨Bn, 0, none⟩), .pointer (some ⟨Bn + 1, 0, none⟩)] encS (KeepTwo Bn) (fun xs => xs = [⟨(c, d), o1⟩, ⟨(m, k), o2⟩]) (fun pre => pre = [⟨(c, d), o1⟩] ∨ pre = [⟨(c, d), o1⟩, ⟨(m, k), o2⟩]) 2 w := fun l J Jx W hW hJ hJx hY hj => by
  refine callsIn_of_wp Try.func47 rfl trivial ?_ rfl
  simp only [Try.ntmps47, List.size_toArray, List.length_cons, List.length_nil, Nat.reduceAdd, Nat.reduceSub, Array.replicate_succ, Array.replicate_zero, List.push_toArray, List.append_toArray, List.nil_append, List.cons_append]
  have c0 : W.cell? ⟨Bn, 0, none⟩ = some (.int .i64 c) := (hW.cell (p := ⟨Bn, 0, none⟩) (by show Bn < _; omega)).trans h0
  have c1 : W.cell? ⟨Bn, 1, none⟩ = some (.int .i64 m) := (hW.cell (p := ⟨Bn, 1, none⟩) (by show Bn < _; omega)).trans h1
  have e0 : W.cell? ⟨Bn + 1, 0, none⟩ = some (.int .i64 d) := (hW.cell (p := ⟨Bn + 1, 0, none⟩) hBw).trans g0
  have e1 : W.cell? ⟨Bn + 1, 1, none⟩ = some (.int .i64 k) := (hW.cell (p := ⟨Bn + 1, 1, none⟩) hBw).trans g1
  obtain ⟨f1, t1, a1, b1, hy1, hR1⟩ := hY [] ⟨(c, d), o1⟩ W hj (by simp)
  dsimp only [encS] at hy1
  gi_wp2
  refine hR1.mono ?_
  rintro e W1 (⟨rfl, hJ1, hk1⟩ | ⟨rfl, hx1⟩)
  · have d1 : W1.cell? ⟨Bn, 1, none⟩ = some (.int .i64 m) := (hk1 1).1.trans c1
    have d2 : W1.cell? ⟨Bn + 1, 1, none⟩ = some (.int .i64 k) := (hk1 1).2.trans e1
    obtain ⟨f2, t2, a2, b2, hy2, hR2⟩ := hY [⟨(c, d), o1⟩] ⟨(m, k), o2⟩ W1 hJ1 (by simp)
    dsimp only [encS] at hy2
    gi_wp2
    refine hR2.mono ?_
    rintro e W2 (⟨rfl, hJ2, _⟩ | ⟨rfl, hx2⟩)
    · gi_wp2
      go_end0
      exact ⟨⟨_, rfl⟩, .inl ⟨_, rfl, hJ2⟩⟩
    · gi_wp2
      go_end0
      exact ⟨⟨_, rfl⟩, .inr ⟨_, .inr rfl, hx2⟩⟩
  · gi_wp2
    go_end0
    exact ⟨⟨_, rfl⟩, .inr ⟨_, .inl rfl, hx1⟩⟩

/-- The greatest fraction so far. -/
def gstep (g : Int × Int) (x : Am) : Int × Int := if 0 < fc (shr x.1.1 x.1.2) g then shr x.1.1 x.1.2 else g
def gfold (pre : List Am) : Int × Int := pre.foldl gstep (-1, 1)
theorem gfold_snoc (pre : List Am) (x : Am) : gfold (pre ++ [x]) = gstep (gfold pre) x := by simp [gfold]
theorem gstep_fr {g : Int × Int} (h : Fr g) (x : Am) : Fr (gstep g x) := by
  unfold gstep
  split
  · exact (shr_fr x.2.1 x.2.2).1
  · exact h
theorem foldl_fr (pre : List Am) : ∀ g : Int × Int, Fr g → Fr (pre.foldl gstep g) := by
  induction pre with
  | nil => intro g h; exact h
  | cons x l ih => intro g h; exact ih _ (gstep_fr h x)
theorem gfold_fr (pre : List Am) : Fr (gfold pre) := foldl_fr pre _ (by unfold Fr I64; simp)

theorem keepsOthers_below {W W' : World} (h : Below W.heap.size W W') : KeepsOthers W W' :=
  ⟨h.size, fun k o hk _ => (h.block k (Array.getElem?_eq_some_iff.1 hk).1).trans hk⟩

/-- What the loop keeps: the greatest fraction's cells, and room for the result. -/
def DomI (S : Nat) (pre : List Am) (W : World) : Prop :=
  W.cell? ⟨S + 1 + 1 + 1, 0, none⟩ = some (.int .i64 (gfold pre).1) ∧ W.cell? ⟨S + 1 + 1 + 1, 1, none⟩ = some (.int .i64 (gfold pre).2) ∧ W.frozen? ⟨S + 1 + 1 + 1, 0, none⟩ = false ∧ W.frozen? ⟨S + 1 + 1 + 1, 1, none⟩ = false
  ∧ W.cell? ⟨S + 1 + 1, 0, none⟩ = some (.int .i64 0) ∧ W.cell? ⟨S + 1 + 1, 1, none⟩ = some (.int .i64 0) ∧ W.frozen? ⟨S + 1 + 1, 0, none⟩ = false ∧ W.frozen? ⟨S + 1 + 1, 1, none⟩ = false

set_option maxRecDepth 100000 in
set_option maxHeartbeats 4000000 in
theorem dominant_in (c m d k : Int) (o1 : okp c ∧ okp d) (o2 : okp m ∧ okp k) (w : World) :
    CallsIn Fence.wide 5 Try.prog 65 #[.agg #[.int .i64 c, .int .i64 m], .agg #[.int .i64 d, .int .i64 k]] w fun e W' =>
      e = .returned (.agg #[.int .i64 (gfold [⟨(c, d), o1⟩, ⟨(m, k), o2⟩]).1, .int .i64 (gfold [⟨(c, d), o1⟩, ⟨(m, k), o2⟩]).2]) ∧ Below w.heap.size w W' := by
  refine callsIn_of_wp_marks Try.func65 rfl trivial ?_ rfl
  simp only [Try.ntmps65, List.size_toArray, List.length_cons, List.length_nil, Nat.reduceAdd, Nat.reduceSub, Array.replicate_succ, Array.replicate_zero, List.push_toArray, List.append_toArray, List.nil_append, List.cons_append]
  gi_wp2_with (refine ⟨trivial, ?_⟩; gi_at_call 33; refine (callsIn_wide.2 (pairs_any c m d k _)).mono ?_; rintro e w' ⟨rfl, rfl⟩)
  have st : DomI w.heap.size [] ((((((w.alloc (.cells #[.int .i64 c, .int .i64 m] 32)).alloc (.cells #[.int .i64 d, .int .i64 k] 32)).alloc (.cells #[.int .i64 0, .int .i64 0] 113)).alloc (.cells #[.int .i64 (-1), .int .i64 1] 113)).alloc (.cells #[.int .i64 c, .int .i64 m] 32)).alloc (.cells #[.int .i64 d, .int .i64 k] 32)) := by unfold DomI; simp [go_sem, gfold]
  have b0 : ((((((w.alloc (.cells #[.int .i64 c, .int .i64 m] 32)).alloc (.cells #[.int .i64 d, .int .i64 k] 32)).alloc (.cells #[.int .i64 0, .int .i64 0] 113)).alloc (.cells #[.int .i64 (-1), .int .i64 1] 113)).alloc (.cells #[.int .i64 c, .int .i64 m] 32)).alloc (.cells #[.int .i64 d, .int .i64 k] 32)).cell? ⟨w.heap.size + 1 + 1 + 1 + 1, 0, none⟩ = some (.int .i64 c) := by simp [go_sem]
  have b1 : ((((((w.alloc (.cells #[.int .i64 c, .int .i64 m] 32)).alloc (.cells #[.int .i64 d, .int .i64 k] 32)).alloc (.cells #[.int .i64 0, .int .i64 0] 113)).alloc (.cells #[.int .i64 (-1), .int .i64 1] 113)).alloc (.cells #[.int .i64 c, .int .i64 m] 32)).alloc (.cells #[.int .i64 d, .int .i64 k] 32)).cell? ⟨w.heap.size + 1 + 1 + 1 + 1, 1, none⟩ = some (.int .i64 m) := by simp [go_sem]
  have e0 : ((((((w.alloc (.cells #[.int .i64 c, .int .i64 m] 32)).alloc (.cells #[.int .i64 d, .int .i64 k] 32)).alloc (.cells #[.int .i64 0, .int .i64 0] 113)).alloc (.cells #[.int .i64 (-1), .int .i64 1] 113)).alloc (.cells #[.int .i64 c, .int .i64 m] 32)).alloc (.cells #[.int .i64 d, .int .i64 k] 32)).cell? ⟨w.heap.size + 1 + 1 + 1 + 1 + 1, 0, none⟩ = some (.int .i64 d) := by simp [go_sem]
  have e1 : ((((((w.alloc (.cells #[.int .i64 c, .int .i64 m] 32)).alloc (.cells #[.int .i64 d, .int .i64 k] 32)).alloc (.cells #[.int .i64 0, .int .i64 0] 113)).alloc (.cells #[.int .i64 (-1), .int .i64 1] 113)).alloc (.cells #[.int .i64 c, .int .i64 m] 32)).alloc (.cells #[.int .i64 d, .int .i64 k] 32)).cell? ⟨w.heap.size + 1 + 1 + 1 + 1 + 1, 1, none⟩ = some (.int .i64 k) := by simp [go_sem]
  have hB0 : Below w.heap.size w ((((((w.alloc (.cells #[.int .i64 c, .int .i64 m] 32)).alloc (.cells #[.int .i64 d, .int .i64 k] 32)).alloc (.cells #[.int .i64 0, .int .i64 0] 113)).alloc (.cells #[.int .i64 (-1), .int .i64 1] 113)).alloc (.cells #[.int .i64 c, .int .i64 m] 32)).alloc (.cells #[.int .i64 d, .int .i64 k] 32)) := (by repeat (first | exact Below.refl _ _ | assumption | refine Below.alloc ?_ (by simp <;> omega) _ | refine Below.setCell ?_ (by simp <;> omega) _ | refine Below.drew ?_ | refine below_drewN ?_ _))
  refine wpIn_rangeFunc_ownF rfl (by omega) (gf := 47) (lb := #[.pointer (some ⟨w.heap.size + 1 + 1 + 1 + 1, 0, none⟩), .pointer (some ⟨w.heap.size + 1 + 1 + 1 + 1 + 1, 0, none⟩)]) rfl trivial (enters_of Try.func47 (by kernel_rfl) rfl)
    (pairs_stopsS 4 (by omega) (w.heap.size + 1 + 1 + 1 + 1) c m d k o1 o2 _ (by simp) b0 b1 e0 e1) keepTwo_t (keepTwo_b (by simp)) (Below.refl _ _) (fun _ => rfl)
    (fun pre W => (DomI w.heap.size pre W ∧ W.cell? ⟨w.heap.size + 1 + 1 + 1 + 1 + 1, 0, none⟩ = some (.int .i64 d)) ∧ Below w.heap.size w W)
    (fun _ _ _ => False)
    (OwnFrom.and (Own.from (fun s A B row hs' hg hr => by obtain ⟨hs, he⟩ := hs'; exact ⟨⟨cell_kept hs.1 hg hr, cell_kept hs.2.1 hg hr, (frozen_kept hs.1 hg hr).trans hs.2.2.1, (frozen_kept hs.2.1 hg hr).trans hs.2.2.2.1, cell_kept hs.2.2.2.2.1 hg hr, cell_kept hs.2.2.2.2.2.1 hg hr, (frozen_kept hs.2.2.2.2.1 hg hr).trans hs.2.2.2.2.2.2.1, (frozen_kept hs.2.2.2.2.2.1 hg hr).trans hs.2.2.2.2.2.2.2⟩, cell_kept he hg hr⟩) _) (ownFrom_below (Nat.le_refl _) (by simp; omega)))
    (fun _ _ _ _ _ hs _ _ => hs)
    ⟨⟨st, e0⟩, hB0⟩
    (fun x => { tmps := #[.agg #[.int .i64 c, .int .i64 m], .agg #[.int .i64 d, .int .i64 k], .pointer (some ⟨w.heap.size, 0, none⟩), .pointer (some ⟨w.heap.size + 1, 0, none⟩), .pointer (some ⟨w.heap.size + 1 + 1, 0, none⟩), .pointer (some ⟨w.heap.size + 1 + 1 + 1, 0, none⟩), .int .i64 x.1.1, .int .i64 x.1.2, undef, .agg #[.int .i64 (-1), .int .i64 1], .agg #[.int .i64 c, .int .i64 m], .agg #[.int .i64 d, .int .i64 k],
        .func (.func 47) #[] #[.pointer (some ⟨w.heap.size + 1 + 1 + 1 + 1, 0, none⟩), .pointer (some ⟨w.heap.size + 1 + 1 + 1 + 1 + 1, 0, none⟩)], .int .i64 x.1.1, .int .i64 x.1.2, undef, undef, undef, undef, undef, undef, undef, undef, undef], defers := [] }) ?assign ?body ?done ?stop
  case assign =>
    intro l x W K hK
    gi_wp2
    exact hK
  case body =>
    rintro l pre x W ⟨⟨hD, he⟩, hB⟩ _
    have hsz := cell_lt he
    simp only at hsz
    have HE := hid he
    clear he
    obtain ⟨c0, c1, f0, f1, c2, c3, f2, f3⟩ := hD
    have hF := (shr_fr x.2.1 x.2.2).1
    have hG := gfold_fr pre
    have lt0 := cell_lt c0
    simp only at lt0
    by_cases hgt : 0 < fc (shr x.1.1 x.1.2) (gfold pre)
    · have t0 : decide (0 < fc (shr x.1.1 x.1.2) (gfold pre)) = true := by simp; omega
      have E : Hid (gfold (pre ++ [x]) = shr x.1.1 x.1.2) := by show _ = _; rw [gfold_snoc]; unfold gstep; rw [if_pos hgt]
      gi_wp2_with fail
      refine ⟨trivial, ?_⟩
      refine (CallsIn.inRound l (callsIn_wide.2 (share_any _ _ _))).mono ?_
      rintro e w1 ⟨rfl, h1⟩
      have u0 := keepc h1 c0; have u1 := keepc h1 c1; have v0 := keepf h1 c0 f0; have v1 := keepf h1 c1 f1
      have u2 := keepc h1 c2; have u3 := keepc h1 c3; have v2 := keepf h1 c2 f2; have v3 := keepf h1 c3 f3
      have lt3 := cell_lt u0
      have lt2 := cell_lt u2
      simp only at lt3 lt2
      clear c0 c1 f0 f1 c2 c3 f2 f3
      gi_wp2_with fail
      refine ⟨trivial, ?_⟩
      refine (CallsIn.inRound l (callsIn_wide.2 (fcmp_any _ _ hF hG _))).mono ?_
      rintro e w2 ⟨rfl, h2⟩
      have z0 := keepf h2 (a := ⟨w.heap.size + 1 + 1 + 1, 0, none⟩) (v := .int .i64 (gfold pre).1) (by simp [go_sem, u0, lt3]) (by simp [go_sem, v0, lt3])
      have y0 := keepc h2 (a := ⟨w.heap.size + 1 + 1 + 1, 0, none⟩) (v := .int .i64 (gfold pre).1) (by simp [go_sem, u0, lt3])
      have z1 := keepf h2 (a := ⟨w.heap.size + 1 + 1 + 1, 1, none⟩) (v := .int .i64 (gfold pre).2) (by simp [go_sem, u1, lt3]) (by simp [go_sem, v1, lt3])
      have y1 := keepc h2 (a := ⟨w.heap.size + 1 + 1 + 1, 1, none⟩) (v := .int .i64 (gfold pre).2) (by simp [go_sem, u1, lt3])
      have z2 := keepf h2 (a := ⟨w.heap.size + 1 + 1, 0, none⟩) (v := .int .i64 0) (by simp [go_sem, u2, lt2]) (by simp [go_sem, v2, lt2])
      have y2 := keepc h2 (a := ⟨w.heap.size + 1 + 1, 0, none⟩) (v := .int .i64 0) (by simp [go_sem, u2, lt2])
      have z3 := keepf h2 (a := ⟨w.heap.size + 1 + 1, 1, none⟩) (v := .int .i64 0) (by simp [go_sem, u3, lt2]) (by simp [go_sem, v3, lt2])
      have y3 := keepc h2 (a := ⟨w.heap.size + 1 + 1, 1, none⟩) (v := .int .i64 0) (by simp [go_sem, u3, lt2])
      have y4 := keepc h2 (a := ⟨w1.heap.size, 0, none⟩) (v := .int .i64 (shr x.1.1 x.1.2).1) (by simp [go_sem])
      have y5 := keepc h2 (a := ⟨w1.heap.size, 1, none⟩) (v := .int .i64 (shr x.1.1 x.1.2).2) (by simp [go_sem])
      have k2 : Below W.heap.size W w2 := (h1.alloc h1.size _).trans (h2.mono (by simp; have := h1.size; omega))
      have hB2 := hB.trans (k2.mono hB.size)
      clear u0 u1 v0 v1 u2 u3 v2 v3
      gi_wp2
      refine ⟨(keepsOthers_below k2).trans ((KeepsOthers.setCell _ _ _).trans (KeepsOthers.setCell _ _ _)), ?_, ⟨⟨?_, ?_, ?_, ?_, ?_, ?_, ?_, ?_⟩, ?_⟩, (hB2.setCell (p := ⟨w.heap.size + 1 + 1 + 1, 0, none⟩) (by simp; omega) _).setCell (p := ⟨w.heap.size + 1 + 1 + 1, 1, none⟩) (by simp; omega) _⟩
      · intro o
        have kk := keepTwo_below (B := w.heap.size + 1 + 1 + 1 + 1) k2 hsz o
        constructor
        · have k1 := kk.1; simpa [go_sem] using k1
        · have k1 := kk.2; simpa [go_sem] using k1
      · rw [E.out]; simp [go_sem, y0]
      · rw [E.out]; simp [go_sem, y1]
      · simp [go_sem, z0]
      · simp [go_sem, z1]
      · simp [go_sem, y2]
      · simp [go_sem, y3]
      · simp [go_sem, z2]
      · simp [go_sem, z3]
      · have k1 := keepc k2 HE.out; simpa [go_sem] using k1
    · have t0 : decide (0 < fc (shr x.1.1 x.1.2) (gfold pre)) = false := by simp; omega
      have E : Hid (gfold (pre ++ [x]) = gfold pre) := by show _ = _; rw [gfold_snoc]; unfold gstep; rw [if_neg hgt]
      gi_wp2_with fail
      refine ⟨trivial, ?_⟩
      refine (CallsIn.inRound l (callsIn_wide.2 (share_any _ _ _))).mono ?_
      rintro e w1 ⟨rfl, h1⟩
      have u0 := keepc h1 c0; have u1 := keepc h1 c1; have v0 := keepf h1 c0 f0; have v1 := keepf h1 c1 f1
      have u2 := keepc h1 c2; have u3 := keepc h1 c3; have v2 := keepf h1 c2 f2; have v3 := keepf h1 c3 f3
      have lt3 := cell_lt u0
      have lt2 := cell_lt u2
      simp only at lt3 lt2
      clear c0 c1 f0 f1 c2 c3 f2 f3
      gi_wp2_with fail
      refine ⟨trivial, ?_⟩
      refine (CallsIn.inRound l (callsIn_wide.2 (fcmp_any _ _ hF hG _))).mono ?_
      rintro e w2 ⟨rfl, h2⟩
      have z0 := keepf h2 (a := ⟨w.heap.size + 1 + 1 + 1, 0, none⟩) (v := .int .i64 (gfold pre).1) (by simp [go_sem, u0, lt3]) (by simp [go_sem, v0, lt3])
      have y0 := keepc h2 (a := ⟨w.heap.size + 1 + 1 + 1, 0, none⟩) (v := .int .i64 (gfold pre).1) (by simp [go_sem, u0, lt3])
      have z1 := keepf h2 (a := ⟨w.heap.size + 1 + 1 + 1, 1, none⟩) (v := .int .i64 (gfold pre).2) (by simp [go_sem, u1, lt3]) (by simp [go_sem, v1, lt3])
      have y1 := keepc h2 (a := ⟨w.heap.size + 1 + 1 + 1, 1, none⟩) (v := .int .i64 (gfold pre).2) (by simp [go_sem, u1, lt3])
      have z2 := keepf h2 (a := ⟨w.heap.size + 1 + 1, 0, none⟩) (v := .int .i64 0) (by simp [go_sem, u2, lt2]) (by simp [go_sem, v2, lt2])
      have y2 := keepc h2 (a := ⟨w.heap.size + 1 + 1, 0, none⟩) (v := .int .i64 0) (by simp [go_sem, u2, lt2])
      have z3 := keepf h2 (a := ⟨w.heap.size + 1 + 1, 1, none⟩) (v := .int .i64 0) (by simp [go_sem, u3, lt2]) (by simp [go_sem, v3, lt2])
      have y3 := keepc h2 (a := ⟨w.heap.size + 1 + 1, 1, none⟩) (v := .int .i64 0) (by simp [go_sem, u3, lt2])
      have y4 := keepc h2 (a := ⟨w1.heap.size, 0, none⟩) (v := .int .i64 (shr x.1.1 x.1.2).1) (by simp [go_sem])
      have y5 := keepc h2 (a := ⟨w1.heap.size, 1, none⟩) (v := .int .i64 (shr x.1.1 x.1.2).2) (by simp [go_sem])
      have k2 : Below W.heap.size W w2 := (h1.alloc h1.size _).trans (h2.mono (by simp; have := h1.size; omega))
      have hB2 := hB.trans (k2.mono hB.size)
      clear u0 u1 v0 v1 u2 u3 v2 v3
      gi_wp2
      refine ⟨keepsOthers_below k2, keepTwo_below k2 hsz, ⟨⟨by rw [E.out]; exact y0, by rw [E.out]; exact y1, z0, z1, y2, y3, z2, z3⟩, keepc k2 HE.out⟩, hB2⟩
  case done =>
    rintro D ys W hD rfl ⟨⟨hI, _⟩, hB⟩ hK
    obtain ⟨c0, c1, f0, f1, c2, c3, f2, f3⟩ := hI
    gi_wp2
    have kk := (KeepsOthers.setCell W ⟨w.heap.size + 1 + 1, 0, none⟩ (.int .i64 (gfold [⟨(c, d), o1⟩, ⟨(m, k), o2⟩]).1)).trans (KeepsOthers.setCell _ ⟨w.heap.size + 1 + 1, 1, none⟩ (.int .i64 (gfold [⟨(c, d), o1⟩, ⟨(m, k), o2⟩]).2))
    have hK' := kk.same D _ hK rfl
    refine ⟨by simp, .inl ⟨_, _, rfl, run_takeDeferred hK', ?_⟩⟩
    have g0 : ((W.setCell ⟨w.heap.size + 1 + 1, 0, none⟩ (.int .i64 (gfold [⟨(c, d), o1⟩, ⟨(m, k), o2⟩]).1)).setCell ⟨w.heap.size + 1 + 1, 1, none⟩ (.int .i64 (gfold [⟨(c, d), o1⟩, ⟨(m, k), o2⟩]).2)).cell? ⟨w.heap.size + 1 + 1, 0, none⟩ = some (.int .i64 (gfold [⟨(c, d), o1⟩, ⟨(m, k), o2⟩]).1) := by simp [go_sem, c2]
    have g1 : ((W.setCell ⟨w.heap.size + 1 + 1, 0, none⟩ (.int .i64 (gfold [⟨(c, d), o1⟩, ⟨(m, k), o2⟩]).1)).setCell ⟨w.heap.size + 1 + 1, 1, none⟩ (.int .i64 (gfold [⟨(c, d), o1⟩, ⟨(m, k), o2⟩]).2)).cell? ⟨w.heap.size + 1 + 1, 1, none⟩ = some (.int .i64 (gfold [⟨(c, d), o1⟩, ⟨(m, k), o2⟩]).2) := by simp [go_sem, c3]
    have hc0 := cell_kept g0 (grownBy_putObj' _ D (.deferred none)) (fun r e => by cases e; exact ⟨_, hK', rfl⟩)
    have hc1 := cell_kept g1 (grownBy_putObj' _ D (.deferred none)) (fun r e => by cases e; exact ⟨_, hK', rfl⟩)
    refine ⟨.agg #[.int .i64 (gfold [⟨(c, d), o1⟩, ⟨(m, k), o2⟩]).1, .int .i64 (gfold [⟨(c, d), o1⟩, ⟨(m, k), o2⟩]).2], ?_, rfl, ((hB.setCell (p := ⟨w.heap.size + 1 + 1, 0, none⟩) (by simp; omega) _).setCell (p := ⟨w.heap.size + 1 + 1, 1, none⟩) (by simp; omega) _).trans (belowK_b (w := w) (Nat.le_refl _) _ D _ _ (by simp at hD; omega) hK' rfl rfl)⟩
    simp [results, Try.f65, go_sem, hc0, hc1]
  case stop =>
    rintro D j pre W _ _ h _
    exact h.elim

theorem dominant_any (c m d k : Int) (o1 : okp c ∧ okp d) (o2 : okp m ∧ okp k) (w : World) :
    Calls Try.prog 65 #[.agg #[.int .i64 c, .int .i64 m], .agg #[.int .i64 d, .int .i64 k]] w fun e W' =>
      e = .returned (.agg #[.int .i64 (gfold [⟨(c, d), o1⟩, ⟨(m, k), o2⟩]).1, .int .i64 (gfold [⟨(c, d), o1⟩, ⟨(m, k), o2⟩]).2]) ∧ Below w.heap.size w W' := callsIn_wide.1 (dominant_in c m d k o1 o2 w)

end Go.Proofs.Ytdbkjcnanffibaa
