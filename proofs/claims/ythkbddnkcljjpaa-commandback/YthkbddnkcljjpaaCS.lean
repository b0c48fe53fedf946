/-
  A range over a function whose iterator turns memory ahead of each round, and once more behind the last one; what it yields is told by a relation.
-/
import Derived.Test.YthkbddnkcljjpaaHE
namespace Go.Proofs.Ythkbddnkcljjpaa
open Go.RowKit Go.Deep Go.Maps
set_option linter.unusedVariables false

/-- An iterator that does a step, Stp, ahead of each of its N rounds, by which it has what it yields; behind them it does Fin. -/
def TurnsX (F : Fence) (n : Nat) (P : Program) (gf : Nat) (lb : Array Value) (N : Nat) (Rd : Nat → World → Prop) (Stp : Nat → Value → World → World → Prop) (Fin : World → World → Prop) (w : World) : Prop :=
  ∀ (l : Nat) (J : Nat → World → Prop) (JM : Nat → Value → World → Prop) (JF : World → Prop) (W : World), Below w.heap.size w W → (∀ k A, J k A → Rd k A) → (∀ k x A B, J k A → k < N → Stp k x A B → JM k x B) → (∀ A B, J N A → Fin A B → JF B) →
    (∀ k x A, JM k x A → k < N → YieldAt F (n - 1) P l #[x] A fun e W' => e = .returned (.bool true) ∧ J (k + 1) W') → J 0 W →
    CallsIn F n P gf (#[.func (.yield l) #[] #[]] ++ lb) W fun e W' => (∃ v, e = .returned v) ∧ JF W'

theorem wpIn_rangeFunc_x {F : Fence} {n : Nat} {P : Program} {g : Operand} {ps : Array Tmp} {assign body : Code} {Q : Exit → Act → World → Prop} {a : Act} {w : World}
    (hro : F.round = none) (h1 : 1 ≤ n) {gf : Nat} {lb : Array Value} (hg : a.eval g = .func (.func gf) #[] lb) (hFg : F.fn gf) (eg : ∀ args w, (callFunc gf args).run P w = .ok (.enter gf args) w)
    {N : Nat} {Rd : Nat → World → Prop} {Stp : Nat → Value → World → World → Prop} {Fin : World → World → Prop} (hT : TurnsX F (n - 1) P gf lb N Rd Stp Fin w) (hps : ps.size = 1)
    (I : Nat → World → Prop) (IM : Nat → Value → World → Prop) (IF : World → Prop) (hI : OwnFrom w.heap.size I) (hIM : ∀ x, OwnFrom w.heap.size (fun k => IM k x)) (hIF : OwnFrom w.heap.size (fun (_ : Nat) => IF)) (h0 : I 0 w) (hRd : ∀ k A, I k A → Rd k A)
    (hStp : ∀ k x A B, I k A → k < N → Stp k x A B → IM k x B) (hFin : ∀ A B, I N A → Fin A B → IF B)
    (hKeep : ∀ k x A B (i : Nat) (o : Obj), I k A → Stp k x A B → w.heap.size ≤ i → A.heap[i]? = some o → o.isCells = false → B.heap[i]? = some o)
    (hKeepF : ∀ A B (i : Nat) (o : Obj), I N A → Fin A B → w.heap.size ≤ i → A.heap[i]? = some o → o.isCells = false → B.heap[i]? = some o)
    (a₁ : Nat → Value → Act)
    (hassign : ∀ (l k : Nat) (x : Value) (W : World) (K : Act → World → Prop), K (a₁ k x) W → assign.wpIn (F.inRound l) (n - 1 - 1) P (Exit.then K (fun _ _ _ => False)) { tmps := (ps.zip #[x]).foldl (fun t (p, v) => t.setIfInBounds p v) a.tmps, defers := [] } W)
    (hbody : ∀ (l k : Nat) (x : Value) (W : World), IM k x W → k < N → body.wpIn (F.inRound l) (n - 1 - 1) P (fun e _ W' => e = .normal ∧ KeepsFrom w.heap.size W W' ∧ I (k + 1) W') (a₁ k x) W)
    (hdone : ∀ (D : Nat) (W : World), w.heap.size ≤ D → IF W → W.heap[D]? = some (.deferred (some [])) → Q .normal { a with defers := { target := .collected D, args := #[] } :: a.defers } W) :
    (Code.rangeFunc g ps assign body).wpIn F n P Q a w := by
  refine wpIn_rangeFunc (fun fn hfn => ?_)
  rw [hro]
  let rec' : LoopState → Loop := fun st => { state := st, pending := none, fn, tmps := a.tmps, params := ps, assign, body, defers := w.heap.size }
  obtain ⟨L, hL⟩ : ∃ L, w.heap.size + 1 = L := ⟨_, rfl⟩
  obtain ⟨W1, hW1⟩ : ∃ W1, (w.alloc (.deferred (some []))).alloc (.loop (rec' .ready)) = W1 := ⟨_, rfl⟩
  have bW : Below w.heap.size w W1 := by rw [← hW1]; exact ((Below.refl _ w).alloc (Nat.le_refl _) _).alloc (by simp) _
  have lW : W1.heap[L]? = some (.loop (rec' .ready)) := by
    rw [← hW1, ← hL]; have := World.alloc_heap_new (w.alloc (.deferred (some []))) (.loop (rec' .ready)); rwa [World.size_alloc] at this
  have dW : W1.heap[w.heap.size]? = some (.deferred (some [])) := by
    rw [← hW1]; exact (Below.heap_alloc _ _ _ (by simp)).trans (World.alloc_heap_new w _)
  have iW : I 0 W1 := by rw [← hW1]; exact hI.alloc _ (hI.alloc _ h0)
  -- what stands between two rounds, and in the midst of one
  let Bk : World → Prop := fun W => W.heap[L]? = some (.loop (rec' .ready)) ∧ W.heap[w.heap.size]? = some (.deferred (some []))
  refine ⟨L, [{ target := .collected w.heap.size, args := #[] }], W1, { target := .fn (.func gf) lb, args := #[.func (.yield L) #[] #[]] }, W1, gf, #[.func (.yield L) #[] #[]] ++ lb, W1, ?_, ?_, ?_, ?_, fun _ => h1, ?_⟩
  · rw [← hW1, ← hL]; exact run_enterLoop_outer _ _ _ _ _
  · simp only [resolve, hg]
    simp [go_sem]
  · intro f' hf'; simp [Target.leads] at hf'; subst hf'; exact hFg
  · simp [invoke, go_sem, eg]
  · refine (hT L (fun k W => I k W ∧ Bk W) (fun k x W => IM k x W ∧ Bk W) (fun W => IF W ∧ Bk W) W1 bW (fun k A h => hRd k A h.1) (fun k x A B h hk hs => ⟨hStp k x A B h.1 hk hs, hKeep k x A B _ _ h.1 hs (by omega) h.2.1 rfl, hKeep k x A B _ _ h.1 hs (Nat.le_refl _) h.2.2 rfl⟩)
      (fun A B h hs => ⟨hFin A B h.1 hs, hKeepF A B _ _ h.1 hs (by omega) h.2.1 rfl, hKeepF A B _ _ h.1 hs (Nat.le_refl _) h.2.2 rfl⟩) ?_ ⟨iW, lW, dW⟩).mono ?_
    · rintro k x W ⟨hi, hl, hd⟩ hk
      have hlt : L < W.heap.size := (Array.getElem?_eq_some_iff.1 hl).1
      have hy := run_yield (P := P) (args := #[x]) hl (by simp [rec', hps])
      refine ⟨fn, _, assign, body, hy, roundIn_of_wpIn hfn (hassign _ k x W _ ⟨_, run_beginRound hl rfl, ?_⟩)⟩
      have l2 : (W.putObj L (.loop { rec' .ready with state := .busy })).heap[L]? = some (.loop { rec' .ready with state := .busy }) := World.putObj_heap_same hlt
      have d2 : (W.putObj L (.loop { rec' .ready with state := .busy })).heap[w.heap.size]? = some (.deferred (some [])) := (World.putObj_heap_other (by omega)).trans hd
      refine wpIn_mono (hbody L k x _ ((hIM x).putObj _ hi (by omega) hl rfl) hk) ?_
      rintro e a3 W3 ⟨rfl, hk3, hi3⟩
      have l3 := hk3.same _ _ (by omega) l2 rfl
      have d3 := hk3.same _ _ (Nat.le_refl _) d2 rfl
      refine ⟨_, _, run_endRound (P := P) none l3, rfl, hI.putObj _ hi3 (by omega) l3 rfl, ?_, ?_⟩
      · exact World.putObj_heap_same (Array.getElem?_eq_some_iff.1 l3).1
      · exact (World.putObj_heap_other (by omega)).trans d3
    · rintro e W2 ⟨⟨v, rfl⟩, hi, hl, hd⟩
      exact ⟨none, _, run_endLoop (P := P) hl (by simp [rec']), hdone _ _ (Nat.le_refl _) (hIF.putObj (s := (0 : Nat)) _ hi (by omega) hl rfl) ((World.putObj_heap_other (by omega)).trans hd)⟩

end Go.Proofs.Ythkbddnkcljjpaa
