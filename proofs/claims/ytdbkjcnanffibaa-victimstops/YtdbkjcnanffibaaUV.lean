/-
  Which lease is the best: mathematics.
-/
import Derived.Test.YtdbkjcnanffibaaUR
import Derived.Test.YtdbkjcnanffibaaRC
import Derived.Test.YtdbkjcnanffibaaVP
namespace Go.Proofs.Ytdbkjcnanffibaa
open Go.RowKit Go.Deep Go.Maps Go.Shelf
set_option linter.unusedVariables false
set_option linter.unusedSimpArgs false

theorem qfT_some {l : List Qu} {id : Int} {q : Qu} : ∀ {k : Nat}, qfT l id k = some q → ∃ j, j < k ∧ q = qa l j ∧ (qa l j).id = id := by
  intro k
  induction k with
  | zero => intro h; cases h
  | succ k ih =>
    intro h
    unfold qfT at h
    split at h
    · rename_i e; cases h; exact ⟨k, by omega, rfl, e⟩
    · obtain ⟨j, hj, e⟩ := ih h; exact ⟨j, by omega, e⟩
theorem qfT_has {l : List Qu} {id : Int} {j : Nat} (e : (qa l j).id = id) : ∀ {k : Nat}, j < k → qfT l id k ≠ none := by
  intro k
  induction k with
  | zero => intro h; omega
  | succ k ih =>
    intro h
    unfold qfT
    split
    · exact fun h => by cases h
    · rename_i hn
      rcases Nat.lt_or_ge j k with h1 | h1
      · exact ih h1
      · obtain rfl : j = k := by omega
        exact absurd e hn
theorem qfT_at {l : List Qu} (hF : Form l) {id : Int} (h : pl l id < l.length) : qfT l id l.length = some (qa l (pl l id)) := by
  have h1 := qfT_has (pl_id h) h
  cases hq : qfT l id l.length with
  | none => exact absurd hq h1
  | some q =>
    obtain ⟨j, hj, e1, e2⟩ := qfT_some hq
    rw [e1, id_injR hF hj h (e2.trans (pl_id h).symm)]

/-- Is a queue one whose share can be told? -/
def candOk (f : Int → Option Qu) (g : Int → Int × Int) (p q a : Int) : Prop := okv (g a) = true ∧ okw ((f a).getD q0).wt = true ∧ okv (p, q) = true
theorem candOk.sok {f : Int → Option Qu} {g : Int → Int × Int} {p q a : Int} (h : candOk f g p q a) : sok p q ((g a).1, (g a).2) ((f a).getD q0).wt := ⟨h.1, by have := h.2.1; unfold okw at this; exact (of_decide_eq_true this).1, h.2.2⟩
theorem ordQ_lev {f : Int → Option Qu} {g : Int → Int × Int} {p q a b : Int} (ha : candOk f g p q a) (hb : candOk f g p q b) : ordQ f g a b p q = lev (g a).1 (g a).2 ((f a).getD q0).wt (g b).1 (g b).2 ((f b).getD q0).wt p q := by
  unfold ordQ ordV
  rw [if_pos]
  unfold leok
  obtain ⟨a1, a2, a3⟩ := ha
  obtain ⟨b1, b2, _⟩ := hb
  simp only [List.all_cons, List.all_nil, Bool.and_true, Bool.and_eq_true]
  exact ⟨⟨a1, b1, a3⟩, a2, b2⟩
theorem ordQ_turn {f : Int → Option Qu} {g : Int → Int × Int} {p q a b : Int} (ha : candOk f g p q a) (hb : candOk f g p q b) : ordQ f g b a p q = -ordQ f g a b p q := by
  rw [ordQ_lev ha hb, ordQ_lev hb ha, lev_turn]
theorem ordQ_trans {f : Int → Option Qu} {g : Int → Int × Int} {p q a b c : Int} (ha : candOk f g p q a) (hb : candOk f g p q b) (hc : candOk f g p q c) (h1 : ordQ f g a b p q ≤ 0) (h2 : ordQ f g b c p q ≤ 0) : ordQ f g a c p q ≤ 0 := by
  rw [ordQ_lev ha hb] at h1
  rw [ordQ_lev hb hc] at h2
  rw [ordQ_lev ha hc]
  exact lev_trans ha.sok hb.sok hc.sok h1 h2
theorem bef_iff {f : Int → Option Qu} {g : Int → Int × Int} {s a t b p q : Int} : befB f g s a t b p q = true ↔ (a = b ∧ t < s) ∨ (a ≠ b ∧ (0 < ordQ f g a b p q ∨ (ordQ f g a b p q = 0 ∧ a < b))) := by
  unfold befB
  by_cases e : a = b
  · simp [e]
  · simp [e]
theorem bef_irr {f : Int → Option Qu} {g : Int → Int × Int} {s a p q : Int} : befB f g s a s a p q = false := by unfold befB; rw [if_pos rfl]; simp
theorem bef_trans {f : Int → Option Qu} {g : Int → Int × Int} {s a t b u c p q : Int} (ha : candOk f g p q a) (hb : candOk f g p q b) (hc : candOk f g p q c) (h1 : befB f g s a t b p q = true) (h2 : befB f g t b u c p q = true) : befB f g s a u c p q = true := by
  rw [bef_iff] at h1 h2 ⊢
  have t1 := ordQ_turn ha hb
  have t2 := ordQ_turn hb hc
  have t3 := ordQ_turn ha hc
  have r1 := ordQ_trans hc hb ha
  have r2 := ordQ_trans ha hc hb
  have r3 := ordQ_trans hb ha hc
  rcases h1 with ⟨rfl, h1⟩ | ⟨n1, h1⟩
  · rcases h2 with ⟨rfl, h2⟩ | ⟨n2, h2⟩
    · exact .inl ⟨rfl, by omega⟩
    · exact .inr ⟨n2, h2⟩
  · rcases h2 with ⟨rfl, h2⟩ | ⟨n2, h2⟩
    · exact .inr ⟨n1, h1⟩
    · by_cases e : a = c
      · exfalso
        subst e
        generalize ordQ f g a b p q = x1 at *
        generalize ordQ f g b a p q = x2 at *
        omega
      · refine .inr ⟨e, ?_⟩
        generalize ordQ f g a b p q = x1 at *
        generalize ordQ f g b c p q = x2 at *
        generalize ordQ f g a c p q = x3 at *
        generalize ordQ f g b a p q = y1 at *
        generalize ordQ f g c b p q = y2 at *
        generalize ordQ f g c a p q = y3 at *
        have k1 : y3 ≤ 0 := r1 (by omega) (by omega)
        by_cases h0 : x3 ≤ 0
        · have k2 := r2 h0 (by omega)
          have k3 := r3 (by omega) h0
          omega
        · omega
theorem greT_none {f : Int → Option Qu} {g : Int → Int × Int} {p q : Int} {l : List Le} : ∀ {k : Nat}, greT f g p q l k = none → ∀ j, j < k → mayB f g (la l j).qu ((la l j).sl : Int) (la l j).me = false := by
  intro k
  induction k with
  | zero => intro _ j hj; omega
  | succ k ih =>
    intro h j hj
    unfold greT at h
    split at h
    · split at h
      · cases h
      · split at h <;> cases h
    · rename_i hm
      rcases Nat.lt_or_ge j k with h1 | h1
      · exact ih h j h1
      · obtain rfl : j = k := by omega
        simpa using hm
theorem greT_best {f : Int → Option Qu} {g : Int → Int × Int} {p q : Int} {l : List Le} {b : Le} : ∀ {k : Nat}, k ≤ l.length → (∀ j, j < k → candOk f g p q (la l j).qu) → greT f g p q l k = some b →
    (∃ j, j < k ∧ b = la l j) ∧ mayB f g b.qu (b.sl : Int) b.me = true ∧ ∀ j, j < k → mayB f g (la l j).qu ((la l j).sl : Int) (la l j).me = true → befB f g (la l j).ta (la l j).qu b.ta b.qu p q = false := by
  intro k
  induction k generalizing b with
  | zero => intro _ _ h; cases h
  | succ k ih =>
    intro hk hc h
    unfold greT at h
    split at h
    · rename_i hm
      split at h
      · rename_i hn
        cases h
        refine ⟨⟨k, by omega, rfl⟩, hm, fun j hj hj2 => ?_⟩
        rcases Nat.lt_or_ge j k with h1 | h1
        · rw [greT_none hn j h1] at hj2; cases hj2
        · obtain rfl : j = k := by omega
          exact bef_irr
      · rename_i b' hs
        obtain ⟨⟨j', hj', e'⟩, hm', hb'⟩ := ih (by omega) (fun j hj => hc j (by omega)) hs
        split at h
        · rename_i hbf
          cases h
          refine ⟨⟨k, by omega, rfl⟩, hm, fun j hj hj2 => ?_⟩
          rcases Nat.lt_or_ge j k with h1 | h1
          · cases hx : befB f g (la l j).ta (la l j).qu (la l k).ta (la l k).qu p q with
            | false => rfl
            | true =>
              have := bef_trans (hc j (by omega)) (hc k (by omega)) (by rw [e']; exact hc j' (by omega)) hx hbf
              rw [hb' j h1 hj2] at this
              cases this
          · obtain rfl : j = k := by omega
            exact bef_irr
        · rename_i hbf
          cases h
          refine ⟨⟨j', by omega, e'⟩, hm', fun j hj hj2 => ?_⟩
          rcases Nat.lt_or_ge j k with h1 | h1
          · exact hb' j h1 hj2
          · obtain rfl : j = k := by omega
            simpa using hbf
    · rename_i hm
      obtain ⟨⟨j', hj', e'⟩, hm', hb'⟩ := ih (by omega) (fun j hj => hc j (by omega)) h
      refine ⟨⟨j', by omega, e'⟩, hm', fun j hj hj2 => ?_⟩
      rcases Nat.lt_or_ge j k with h1 | h1
      · exact hb' j h1 hj2
      · obtain rfl : j = k := by omega
        exact absurd hj2 hm
/-- What queues and leases that are right tell of each lease's queue. -/
theorem cand_of {l : List Qu} {m : List Le} {p q : Int} (hok : ∀ x ∈ m, x.okB) (h1 : readE l m = 0) (hc : chk p q = 0) {x : Le} (hx : x ∈ m) : candOk (fun id => qfT l id l.length) (fun i => useT m i m.length) p q x.qu := by
  have h2 := read_leaf hok h1 hx
  have hC := (readE_parts h1).1
  have hG := chkE_ok.1 hC
  have hp : pl l x.qu < l.length := of_decide_eq_true h2.1
  refine ⟨fitT_ok (useErr_gd (readE_parts h1).2.1).2, ?_, ?_⟩
  · simp only
    rw [qfT_at hG.2.1 hp]
    exact (arg_at hG.2.2.1 (by unfold qa; rw [List.getElem?_eq_getElem hp]; exact List.getElem_mem hp)).1
  · unfold chk at hc
    split at hc
    · rename_i h; unfold okv; exact decide_eq_true h
    · cases hc
end Go.Proofs.Ytdbkjcnanffibaa
