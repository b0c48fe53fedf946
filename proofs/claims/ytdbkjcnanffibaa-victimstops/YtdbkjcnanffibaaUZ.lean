/-
  What a queue covers without one of its leases: mathematics.
-/
import Derived.Test.YtdbkjcnanffibaaUX
namespace Go.Proofs.Ytdbkjcnanffibaa
open Go.RowKit Go.Deep Go.Maps Go.Shelf
set_option linter.unusedVariables false
set_option linter.unusedSimpArgs false

/-- What 'Uses' tells: nothing beside an error. -/
def uvL (m : List Le) : List Us := if useErr m = 0 then useV m else []
theorem uvL_yes {m : List Le} (h : useErr m = 0) : uvL m = useV m := by unfold uvL; rw [if_pos h]
/-- Does what a queue uses by leases cover its Min? -/
def covB (l : List Qu) (m : List Le) (id : Int) : Bool := decide (sumsE l (uvL m) = 0) && (hasQ l id && fitB (qa l (pl l id)).mc (qa l (pl l id)).mm (vecAt l (uvL m) (pl l id)).1 (vecAt l (uvL m) (pl l id)).2)
/-- A list without what stands at a place. -/
def wo (m : List Le) (i : Nat) : List Le := m.take i ++ m.drop (i + 1)
theorem wo_sub (m : List Le) (i : Nat) : (wo m i).Sublist m := by
  unfold wo
  have h1 : (m.drop (i + 1)).Sublist (m.drop i) := by
    rw [← List.drop_drop]
    exact List.drop_sublist _ _
  have h2 := List.Sublist.append (List.Sublist.refl (m.take i)) h1
  rw [List.take_append_drop] at h2
  exact h2
theorem sumL_append (q : Int) (b : List Le) : ∀ a : List Le, sumL q (a ++ b) = ((sumL q a).1 + (sumL q b).1, (sumL q a).2 + (sumL q b).2) := by
  intro a
  induction a with
  | nil => exact Prod.ext (by simp [sumL]) (by simp [sumL])
  | cons x r ih =>
    rw [List.cons_append, sumL_cons, sumL_cons, ih]
    by_cases e : x.qu = q
    · rw [if_pos e, if_pos e]; exact Prod.ext (by simp only; omega) (by simp only; omega)
    · rw [if_neg e, if_neg e]
theorem sumL_wo {m : List Le} {i : Nat} (hi : i < m.length) : sumL (la m i).qu (wo m i) = ((sumL (la m i).qu m).1 - ((la m i).sl : Int), (sumL (la m i).qu m).2 - (la m i).me) := by
  have e : m = m.take i ++ (la m i :: m.drop (i + 1)) := by
    have h1 : m.drop i = la m i :: m.drop (i + 1) := by
      rw [List.drop_eq_getElem_cons hi]
      have : la m i = m[i] := by unfold la; rw [List.getElem?_eq_getElem hi]; rfl
      rw [this]
    rw [← h1, List.take_append_drop]
  have h2 : sumL (la m i).qu m = sumL (la m i).qu (m.take i ++ (la m i :: m.drop (i + 1))) := congrArg _ e
  rw [h2]
  unfold wo
  rw [sumL_append, sumL_append, sumL_cons, if_pos rfl]
  exact Prod.ext (by simp only; omega) (by simp only; omega)
/-- Without a lease its queue covers its Min just where that lease may yield. -/
theorem cov_may {l : List Qu} {m : List Le} (hok : ∀ x ∈ m, x.okB) (h : readE l m = 0) {i : Nat} (hi : i < m.length) :
    covB l (wo m i) (la m i).qu = mayB (fun id => qfT l id l.length) (fun i => useT m i m.length) (la m i).qu ((la m i).sl : Int) (la m i).me := by
  have hx := la_mem hi
  have h2 := read_leaf hok h hx
  have hp : pl l (la m i).qu < l.length := of_decide_eq_true h2.1
  have hw := readE_part hok (wo_sub m i) h
  have hokw : ∀ x ∈ wo m i, x.okB := fun x hx => hok x ((wo_sub m i).subset hx)
  obtain ⟨w1, w2, w3⟩ := readE_parts hw
  obtain ⟨m1, m2, m3⟩ := may_y hok h hx hp (pl_id hp).symm
  rw [m1]
  unfold covB
  rw [uvL_yes w2, w3, h2.1]
  have hl : vecAt l (useV (wo m i)) (pl l (la m i).qu) = ((vecAt l (useV m) (pl l (la m i).qu)).1 - ((la m i).sl : Int), (vecAt l (useV m) (pl l (la m i).qu)).2 - (la m i).me) := by
    rw [cT_leaf hokw hw h2.1 h2.2, m2, useT_sum _ _ (Nat.le_refl _), List.take_length, useT_sum _ _ (Nat.le_refl _), List.take_length, sumL_wo hi]
  rw [hl]
  unfold yB
  rw [pl_id hp]
  simp
/-- Has one of the first k leases this task, and may it yield? -/
def fndK (l : List Qu) (m : List Le) (t : Int) : Nat → Bool
  | 0 => false
  | k + 1 => fndK l m t k || (decide ((la m k).ta = t) && covB l (wo m k) (la m k).qu)
theorem fndK_yes {l : List Qu} {m : List Le} {t : Int} {j : Nat} (h1 : (la m j).ta = t) (h2 : covB l (wo m j) (la m j).qu = true) : ∀ {k : Nat}, j < k → fndK l m t k = true := by
  intro k
  induction k with
  | zero => intro h; omega
  | succ k ih =>
    intro h
    unfold fndK
    rcases Nat.lt_or_ge j k with h3 | h3
    · rw [ih h3]; rfl
    · obtain rfl : j = k := by omega
      rw [h1, h2]; simp
theorem lastL_sub (ls : List Le) : (lastL ls).Sublist ls := by rw [lastL_eq]; exact List.filter_sublist
/-- The victim is found. -/
theorem best_found {l : List Qu} {ls : List Le} {p q : Int} (hok : ∀ x ∈ ls, x.okB) (h : readE l ls = 0) (hc : chk p q = 0) {b : Le} (hb : bestL l ls p q = some b) : fndK l (lastL ls) b.ta (lastL ls).length = true := by
  have hokm : ∀ x ∈ lastL ls, x.okB := fun x hx => hok x ((lastL_sub ls).subset hx)
  have hm := readE_part hok (lastL_sub ls) h
  obtain ⟨⟨j, hj, e⟩, hmay, _⟩ := greT_best (Nat.le_refl _) (fun j hj => cand_of hokm hm hc (la_mem hj)) hb
  rw [e] at hmay ⊢
  exact fndK_yes rfl ((cov_may hokm hm hj).trans hmay) hj
/-- Where there is none none may go. -/
theorem none_may {l : List Qu} {ls : List Le} {p q : Int} (hok : ∀ x ∈ ls, x.okB) (h : readE l ls = 0) (hb : bestL l ls p q = none) {j : Nat} (hj : j < (lastL ls).length) : covB l (wo (lastL ls) j) (la (lastL ls) j).qu = false := by
  have hokm : ∀ x ∈ lastL ls, x.okB := fun x hx => hok x ((lastL_sub ls).subset hx)
  rw [cov_may hokm (readE_part hok (lastL_sub ls) h) hj]
  exact greT_none hb j hj
/-- Is all that is handed in of the form? -/
def vicB (l : List Qu) (ls : List Le) (p q : Int) : Bool := decide (useErr ls = 0) && (decide (sumsE l (uvL ls) = 0) && okv (p, q))
theorem vic_read {l : List Qu} {ls : List Le} {p q : Int} (h : vicB l ls p q = true) : readE l ls = 0 ∧ chk p q = 0 := by
  unfold vicB at h
  rw [Bool.and_eq_true, Bool.and_eq_true, decide_eq_true_eq, decide_eq_true_eq] at h
  obtain ⟨h1, h2, h3⟩ := h
  rw [uvL_yes h1] at h2
  exact ⟨readE_mk (sumsE_zero h2).1 h1 h2, chk_ok h3⟩
theorem lastL_last (ls : List Le) : lastL (lastL ls) = lastL ls := by rw [lastL_eq (lastL ls), lastL_eq, List.filter_filter]; simp
/-- Leases that don't last are as if they weren't there. -/
theorem stops_eq {l : List Qu} {ls : List Le} {p q : Int} (hok : ∀ x ∈ ls, x.okB) (h : readE l ls = 0) : chsE l (lastL ls) p q = chsE l ls p q ∧ chsT l (lastL ls) p q = chsT l ls p q := by
  have hm := readE_part hok (lastL_sub ls) h
  have hb : bestL l (lastL ls) p q = bestL l ls p q := by unfold bestL; rw [lastL_last]
  unfold chsE chsT
  rw [hm, h, hb]
  exact ⟨rfl, rfl⟩
end Go.Proofs.Ytdbkjcnanffibaa
