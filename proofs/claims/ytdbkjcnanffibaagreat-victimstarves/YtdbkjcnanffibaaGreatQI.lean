/-
  Contracts of queue: all below a queue, yielded.
-/
import Derived.Test.YtdbkjcnanffibaaGreatQH
namespace Go.Proofs.YtdbkjcnanffibaaGreat
open Go.RowKit Go.Deep Go.Maps Go.Shelf
set_option linter.unusedVariables false
attribute [local go_sem] Oper.semAt_some

/-- A set of numbers in a map. -/
def SetM (w : World) (b n : Nat) (f : Int → Bool) : Prop := ∃ D : DataW Unit, w.ownsMap Tryz.prog 3 unitElem b n D ∧ ∀ id : Int, Maps.has D (.int .i64 id) = f id
theorem SetM.same {w w' : World} {b n : Nat} {f : Int → Bool} (h : SetM w b n f) (hb : w'.heap[b]? = w.heap[b]?) : SetM w' b n f := by
  obtain ⟨D, ⟨es, clock, h1, h2⟩, h3⟩ := h
  exact ⟨D, ⟨es, clock, hb.trans h1, h2⟩, h3⟩
theorem SetM.obj {w : World} {b n : Nat} {f : Int → Bool} (h : SetM w b n f) : ∃ o : Obj, w.heap[b]? = some o ∧ o.isWalk = true := by
  obtain ⟨D, ⟨es, clock, h1, h2⟩, h3⟩ := h
  exact ⟨_, h1, rfl⟩
theorem SetM.lt {w : World} {b n : Nat} {f : Int → Bool} (h : SetM w b n f) : b < w.heap.size := by
  obtain ⟨o, h, _⟩ := h.obj
  exact (Array.getElem?_eq_some_iff.1 h).1
theorem SetM.kw {w w' : World} {b n : Nat} {f : Int → Bool} (h : SetM w b n f) (hk : KeepsWalks w w') : SetM w' b n f := by
  obtain ⟨o, h1, h2⟩ := h.obj
  exact h.same ((hk.same b o h1 h2).trans h1.symm)
theorem SetM.alloc {w : World} {b n : Nat} {f : Int → Bool} (h : SetM w b n f) (o : Obj) : SetM (w.alloc o) b n f := h.same (Below.heap_alloc _ _ _ h.lt)
theorem setM_made (w : World) : SetM (w.alloc (.map #[] 0)) w.heap.size 0 (fun _ => false) := ⟨_, World.ownsMap_made _ _ _ _, fun id => by simp [Maps.has]⟩

/-- Those of the first k that stand below a place. -/
def downTo (l : List Qu) (P k : Nat) : List (Fin l.length) := (upF l k).filter (fun j => decide (P ∈ pth l j.val))
def downs (l : List Qu) (P : Nat) : List (Fin l.length) := (List.finRange l.length).filter (fun j => decide (P ∈ pth l j.val))
theorem downTo_all (l : List Qu) (P : Nat) : downTo l P l.length = downs l P := by unfold downTo downs; rw [upF_all]
theorem downTo_yes {l : List Qu} {P k : Nat} (h : k < l.length) (e : P ∈ pth l k) : downTo l P (k + 1) = downTo l P k ++ [⟨k, h⟩] := by
  unfold downTo; rw [upF_succ h, List.filter_append]; simp [e]
theorem downTo_no {l : List Qu} {P k : Nat} (h : k < l.length) (e : ¬ P ∈ pth l k) : downTo l P (k + 1) = downTo l P k := by
  unfold downTo; rw [upF_succ h, List.filter_append]; simp [e]
theorem downTo_pre (l : List Qu) (P k : Nat) : downTo l P k <+: downs l P := (upF_pre l k).filter _
theorem downTo_lt {l : List Qu} {P k : Nat} (h : k < l.length) (e : P ∈ pth l k) : (downTo l P k).length < (downs l P).length := by
  have := (downTo_pre l P (k + 1)).length_le
  rw [downTo_yes h e] at this
  simp at this
  omega
theorem downTo_nil {l : List Qu} {P : Nat} : ∀ k, k ≤ P → k ≤ l.length → downTo l P k = [] := by
  intro k
  induction k with
  | zero => intros; rfl
  | succ k ih =>
    intro h1 h2
    rw [downTo_no (by omega) (fun h => by have := pth_le k P h; omega)]
    exact ih (by omega) (by omega)
/-- What has been met, k queues on. -/
def metF (l : List Qu) (P k : Nat) (id : Int) : Bool := decide (pl l id < k) && decide (P ∈ pth l (pl l id))
theorem Form.pl_iff {l : List Qu} (h : Form l) {k : Nat} (hk : k < l.length) {id : Int} : Proofs.YtdbkjcnanffibaaGreat.pl l id = k ↔ id = (qa l k).id := by
  constructor
  · intro e; rw [← e]; exact (pl_id (by omega)).symm
  · rintro rfl; exact h.pl hk
theorem metF_start {l : List Qu} (h : Form l) {P : Nat} (hP : P < l.length) : (fun y => false || decide (y = (qa l P).id)) = metF l P (P + 1) := by
  funext y
  simp only [Bool.false_or, metF]
  rw [Bool.eq_iff_iff]
  simp only [decide_eq_true_eq, Bool.and_eq_true]
  constructor
  · rintro rfl
    rw [h.pl hP]
    exact ⟨by omega, pth_self l P⟩
  · rintro ⟨h1, h2⟩
    have h3 := pth_le _ _ h2
    exact (h.pl_iff hP).1 (by omega)
theorem metF_yes {l : List Qu} (h : Form l) {P k : Nat} (hk : k < l.length) (e : P ∈ pth l k) : (fun y => metF l P k y || decide (y = (qa l k).id)) = metF l P (k + 1) := by
  funext y
  simp only [metF]
  rw [Bool.eq_iff_iff]
  simp only [decide_eq_true_eq, Bool.and_eq_true, Bool.or_eq_true]
  constructor
  · rintro (⟨h1, h2⟩ | rfl)
    · exact ⟨by omega, h2⟩
    · rw [h.pl hk]; exact ⟨by omega, e⟩
  · rintro ⟨h1, h2⟩
    by_cases h3 : pl l y = k
    · exact .inr ((h.pl_iff hk).1 h3)
    · exact .inl ⟨by omega, h2⟩
theorem metF_no {l : List Qu} (h : Form l) {P k : Nat} (hk : k < l.length) (e : ¬ P ∈ pth l k) : metF l P k = metF l P (k + 1) := by
  funext y
  simp only [metF]
  rw [Bool.eq_iff_iff]
  simp only [decide_eq_true_eq, Bool.and_eq_true]
  constructor
  · rintro ⟨h1, h2⟩; exact ⟨by omega, h2⟩
  · rintro ⟨h1, h2⟩
    refine ⟨?_, h2⟩
    rcases Nat.lt_or_ge (pl l y) k with h3 | h3
    · exact h3
    · have h4 : pl l y = k := by omega
      rw [h4] at h2; exact absurd h2 e
theorem metF_par {l : List Qu} (h : Form l) {P k : Nat} (hk : k < l.length) (hP : P < k) : metF l P k (qa l k).par = decide (P ∈ pth l k) := by
  have hu := h.up hk (by omega)
  unfold metF
  rw [pth_step hu]
  simp [hu]
  intro e; omega

end Go.Proofs.YtdbkjcnanffibaaGreat
