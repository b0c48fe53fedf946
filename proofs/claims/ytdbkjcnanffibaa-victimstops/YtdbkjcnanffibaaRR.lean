/-
  What a queue uses is what its children use together: lists.
-/
import Derived.Test.YtdbkjcnanffibaaRM
namespace Go.Proofs.Ytdbkjcnanffibaa
open Go.RowKit Go.Deep
set_option linter.unusedVariables false

/-- A sum over the first places. -/
def sumI (g : Nat → Int) : Nat → Int
  | 0 => 0
  | n + 1 => sumI g n + g n
theorem sumI_add (g h : Nat → Int) (n : Nat) : sumI (fun k => g k + h k) n = sumI g n + sumI h n := by
  induction n with
  | zero => rfl
  | succ n ih => simp only [sumI, ih]; omega
theorem sumI_congr {g h : Nat → Int} {n : Nat} (e : ∀ k, k < n → g k = h k) : sumI g n = sumI h n := by
  induction n with
  | zero => rfl
  | succ n ih => simp only [sumI]; rw [ih (fun k hk => e k (by omega)), e n (by omega)]
theorem sumI_zero {g : Nat → Int} {n : Nat} (e : ∀ k, k < n → g k = 0) : sumI g n = 0 := by
  induction n with
  | zero => rfl
  | succ n ih => simp only [sumI]; rw [ih (fun k hk => e k (by omega)), e n (by omega)]; rfl
theorem sumI_one (a : Int) (P n : Nat) (h : P < n) : sumI (fun k => if k = P then a else 0) n = a := by
  induction n with
  | zero => omega
  | succ n ih =>
    simp only [sumI]
    by_cases e : n = P
    · subst e
      rw [if_pos rfl, sumI_zero (fun k hk => if_neg (by omega))]
      omega
    · rw [if_neg e, ih (by omega)]
      omega

/-- A child on the way: one, or none. -/
theorem way_child {l : List Qu} (hF : Form l) {i : Nat} (hi : i < l.length) (x : Int) : ∀ P, P < l.length →
    sumI (fun k => if (qa l k).par = (qa l i).id ∧ k ∈ pth l P then x else 0) l.length = if i ∈ pth l P ∧ i ≠ P then x else 0 := by
  intro P
  induction P using Nat.strongRecOn with
  | _ P ih =>
    intro hP
    by_cases h0 : P = 0
    · subst h0
      have hr : pth l 0 = [0] := pth_root (by omega)
      rw [hr]
      rw [sumI_zero, if_neg]
      · rintro ⟨h1, h2⟩
        simp at h1
        exact h2 h1
      · intro k hk
        rw [if_neg]
        rintro ⟨h1, h2⟩
        simp at h2
        subst h2
        have := hF.id_nonneg hi
        rw [hF.root.2] at h1
        omega
    · have hu := hF.up hP h0
      have hs : pth l P = P :: pth l (pl l (qa l P).par) := pth_step hu
      have hlt : ∀ k, k ∈ pth l (pl l (qa l P).par) → k < P := fun k hk => by have := pth_le _ k hk; omega
      have hiff : (qa l P).par = (qa l i).id ↔ pl l (qa l P).par = i := by
        constructor
        · intro e; rw [e]; exact hF.pl hi
        · intro e; rw [← e]; exact (pl_id (by omega)).symm
      have ihP := ih _ hu (by omega)
      have e1 : sumI (fun k => if (qa l k).par = (qa l i).id ∧ k ∈ pth l P then x else 0) l.length = sumI (fun k => if k = P then (if (qa l P).par = (qa l i).id then x else 0) else 0) l.length + sumI (fun k => if (qa l k).par = (qa l i).id ∧ k ∈ pth l (pl l (qa l P).par) then x else 0) l.length := by
        rw [← sumI_add]
        refine sumI_congr (fun k hk => ?_)
        rw [hs]
        by_cases hkP : k = P
        · subst hkP
          have hn : ¬ k ∈ pth l (pl l (qa l k).par) := fun h => by have := hlt k h; omega
          simp [hn]
        · simp [hkP]
      rw [e1, sumI_one _ P _ hP, ihP, hs]
      by_cases hpi : pl l (qa l P).par = i
      · have h1 := hiff.2 hpi
        rw [if_pos h1, if_neg (by rintro ⟨_, h⟩; exact h hpi.symm), if_pos]
        · omega
        · refine ⟨?_, fun e => by omega⟩
          rw [hpi]
          exact List.mem_cons_of_mem _ (by rw [pth]; exact List.mem_cons_self ..)
      · have h1 : ¬ (qa l P).par = (qa l i).id := fun e => hpi (hiff.1 e)
        rw [if_neg h1]
        by_cases hm : i ∈ pth l (pl l (qa l P).par)
        · rw [if_pos ⟨hm, fun e => hpi e.symm⟩, if_pos ⟨List.mem_cons_of_mem _ hm, fun e => by have := hlt i hm; omega⟩]
          omega
        · rw [if_neg (fun h => hm h.1), if_neg]
          · omega
          · rintro ⟨h2, h3⟩
            rcases List.mem_cons.1 h2 with h2 | h2
            · exact h3 h2
            · exact hm h2
/-- What a queue with children uses is what these use together, where the uses are leaves'. -/
theorem sum_children {l : List Qu} (hF : Form l) {i : Nat} (hi : i < l.length) (hk : leafB l (qa l i).id = false) (f : Us → Int) : ∀ us : List Us, (∀ u ∈ us, useE l u = 0) →
    sumI (fun k => if (qa l k).par = (qa l i).id then sumU f l k us else 0) l.length = sumU f l i us := by
  intro us
  induction us with
  | nil => intro _; exact sumI_zero (fun k _ => by split <;> rfl)
  | cons u r ih =>
    intro h
    obtain ⟨z1, z2, _, _⟩ := useE_zero (h u (List.mem_cons_self ..))
    have hP : pl l u.qu < l.length := of_decide_eq_true z1
    have hne : i ≠ pl l u.qu := fun e => by
      have := pl_id hP
      rw [← e] at this
      rw [this, z2] at hk
      cases hk
    have e1 : sumI (fun k => if (qa l k).par = (qa l i).id then sumU f l k (u :: r) else 0) l.length = sumI (fun k => if (qa l k).par = (qa l i).id ∧ k ∈ pth l (pl l u.qu) then f u else 0) l.length + sumI (fun k => if (qa l k).par = (qa l i).id then sumU f l k r else 0) l.length := by
      rw [← sumI_add]
      refine sumI_congr (fun k _ => ?_)
      by_cases hp : (qa l k).par = (qa l i).id
      · by_cases hm : k ∈ pth l (pl l u.qu) <;> simp [hp, hm, sumU]
      · simp [hp]
    rw [e1, ih (fun x hx => h x (List.mem_cons_of_mem _ hx)), way_child hF hi (f u) _ hP]
    simp only [sumU]
    by_cases hm : i ∈ pth l (pl l u.qu)
    · rw [if_pos ⟨hm, hne⟩, if_pos hm]
    · rw [if_neg (fun h => hm h.1), if_neg hm]
/-- A leaf's uses are its own. -/
theorem leaf_way {l : List Qu} (hF : Form l) {i : Nat} (hi : i < l.length) (hk : leafB l (qa l i).id = true) {P : Nat} (hP : P < l.length) : i ∈ pth l P ↔ i = P := by
  constructor
  · intro h
    by_cases e : i = P
    · exact e
    · exfalso
      have hw := way_child hF hi 1 P hP
      rw [if_pos ⟨h, e⟩, sumI_zero] at hw
      · cases hw
      · intro k hkl
        rw [if_neg]
        rintro ⟨h1, _⟩
        unfold leafB kids at hk
        rw [List.isEmpty_iff, List.filter_eq_nil_iff] at hk
        exact hk ⟨k, hkl⟩ (List.mem_finRange _) (by simpa using h1)
  · rintro rfl
    rw [pth]; exact List.mem_cons_self ..
/-- The root has all. -/
theorem root_way {l : List Qu} (hF : Form l) : ∀ P, P < l.length → 0 ∈ pth l P := by
  intro P
  induction P using Nat.strongRecOn with
  | _ P ih =>
    intro hP
    by_cases h0 : P = 0
    · subst h0; rw [pth]; exact List.mem_cons_self ..
    · have hu := hF.up hP h0
      rw [pth_step hu]
      exact List.mem_cons_of_mem _ (ih _ hu (by omega))

end Go.Proofs.Ytdbkjcnanffibaa
