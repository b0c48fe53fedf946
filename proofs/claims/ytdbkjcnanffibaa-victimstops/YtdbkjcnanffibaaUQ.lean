/-
  The document's answers of victim: mathematics of insert and Uses.
-/
import Derived.Test.YtdbkjcnanffibaaUP
import Derived.Test.YtdbkjcnanffibaaUN
namespace Go.Proofs.Ytdbkjcnanffibaa
open Go.RowKit Go.Deep Go.Maps Go.Shelf
set_option linter.unusedVariables false
set_option linter.unusedSimpArgs false

theorem insI_low {n : Int} : ∀ {r s : List Int}, (∀ y ∈ r, y < n) → insI n (r ++ s) = r ++ insI n s := by
  intro r
  induction r with
  | nil => intro s _; rfl
  | cons y r ih =>
    intro s h
    have h1 := h y List.mem_cons_self
    rw [List.cons_append]
    show (if n < y then _ else if n = y then _ else y :: insI n (r ++ s)) = _
    rw [if_neg (by omega), if_neg (by omega), ih (fun z hz => h z (List.mem_cons_of_mem _ hz))]
    rfl
theorem insI_high {n x : Int} : ∀ {r : List Int}, (∃ y ∈ r, n < y) → n ∉ r → insI n (r ++ [x]) = insI n r ++ [x] := by
  intro r
  induction r with
  | nil => rintro ⟨y, hy, _⟩; cases hy
  | cons y r ih =>
    intro h hn
    rw [List.cons_append]
    show (if n < y then n :: y :: (r ++ [x]) else if n = y then _ else y :: insI n (r ++ [x])) = (if n < y then n :: y :: r else if n = y then _ else y :: insI n r) ++ [x]
    by_cases h1 : n < y
    · rw [if_pos h1, if_pos h1]; rfl
    · have h2 : n ≠ y := fun e => hn (by rw [e]; exact List.mem_cons_self)
      rw [if_neg h1, if_neg h1, if_neg h2, if_neg h2]
      obtain ⟨z, hz, hlt⟩ := h
      rcases List.mem_cons.1 hz with rfl | hz
      · exact absurd hlt h1
      · rw [ih ⟨z, hz, hlt⟩ (fun hm => hn (List.mem_cons_of_mem _ hm))]; rfl
theorem insI_in {n : Int} : ∀ {r : List Int}, r.Pairwise (· < ·) → n ∈ r → insI n r = r := by
  intro r
  induction r with
  | nil => intro _ h; cases h
  | cons y r ih =>
    intro hp h
    have hp' := List.pairwise_cons.1 hp
    show (if n < y then _ else if n = y then _ else y :: insI n r) = _
    rcases List.mem_cons.1 h with rfl | h
    · rw [if_neg (by omega), if_pos rfl]
    · have := hp'.1 n h
      rw [if_neg (by omega), if_neg (by omega), ih hp'.2 h]
theorem take_snocI {l : List Int} {k : Nat} (h : k < l.length) : l.take (k + 1) = l.take k ++ [l[k]?.getD 0] := by
  rw [List.take_add_one, List.getElem?_eq_getElem h]; rfl
theorem putK_iff {l : List Int} {n : Int} : ∀ {k : Nat}, k ≤ l.length → (putK l n k = true ↔ ∃ y ∈ l.take k, n < y) := by
  intro k
  induction k with
  | zero => intro _; simp [putK]
  | succ k ih =>
    intro hk
    unfold putK
    rw [take_snocI (by omega), Bool.or_eq_true, ih (by omega), decide_eq_true_eq]
    constructor
    · rintro (⟨y, hy, h⟩ | h)
      · exact ⟨y, List.mem_append.2 (.inl hy), h⟩
      · exact ⟨_, List.mem_append.2 (.inr (List.mem_singleton.2 rfl)), h⟩
    · rintro ⟨y, hy, h⟩
      rcases List.mem_append.1 hy with hy | hy
      · exact .inl ⟨y, hy, h⟩
      · rw [List.mem_singleton] at hy; subst hy; exact .inr h
theorem insK_is {l : List Int} {n : Int} (hn : n ∉ l) : ∀ {k : Nat}, k ≤ l.length → insK l n k = if putK l n k = true then insI n (l.take k) else l.take k := by
  intro k
  induction k with
  | zero => intro _; simp [putK, insK]
  | succ k ih =>
    intro hk
    have hx : l[k]?.getD 0 ∈ l := by rw [List.getElem?_eq_getElem (by omega)]; exact List.getElem_mem _
    have hne : n ≠ l[k]?.getD 0 := fun e => hn (e ▸ hx)
    have hsub : ∀ {m : Nat}, n ∉ l.take m := fun h => hn (List.mem_of_mem_take h)
    unfold insK
    rw [ih (by omega), take_snocI (by omega)]
    have hP : putK l n (k + 1) = (putK l n k || decide (n < l[k]?.getD 0)) := rfl
    rw [hP]
    cases hp : putK l n k with
    | true =>
      simp only [Bool.true_or, if_true]
      rw [if_neg (by simp), insI_high ((putK_iff (by omega)).1 hp) hsub]
    | false =>
      have hlow : ∀ y ∈ l.take k, y < n := fun y hy => by
        have h1 : ¬ n < y := fun h => by rw [(putK_iff (by omega)).2 ⟨y, hy, h⟩] at hp; cases hp
        have h2 : n ≠ y := fun e => hsub (e ▸ hy)
        omega
      by_cases hlt : n < l[k]?.getD 0
      · simp only [Bool.false_or, decide_eq_true hlt, if_true]
        rw [if_pos (by first | exact ⟨rfl, hlt⟩ | exact ⟨trivial, hlt⟩), insI_low hlow]
        show _ = _ ++ (if n < l[k]?.getD 0 then _ else _)
        rw [if_pos hlt]
        simp
      · simp only [Bool.false_or, decide_eq_false hlt]
        rw [if_neg (fun h => hlt h.2)]
        simp
theorem insD_eq {l : List Int} {n : Int} (hn : n ∉ l) : insD l n = insI n l := by
  unfold insD
  rw [insK_is hn (Nat.le_refl _), List.take_length]
  cases hp : putK l n l.length with
  | true => simp
  | false =>
    have hlow : ∀ y ∈ l, y < n := fun y hy => by
      have h1 : ¬ n < y := fun h => by rw [(putK_iff (Nat.le_refl _)).2 ⟨y, by rw [List.take_length]; exact hy, h⟩] at hp; cases hp
      have h2 : n ≠ y := fun e => hn (e ▸ hy)
      omega
    have := insI_low (s := []) hlow
    rw [List.append_nil] at this
    simp [this, insI]
/-- The queues of one lease more. -/
theorem idsT_in {l : List Le} (hok : ∀ x ∈ l, x.okB) {k : Nat} (hk : k < l.length) (h : hasN (idsT l k) (la l k).qu = true) : idsT l (k + 1) = idsT l k := insI_in (riseT hok (by omega)).1 (hasN_iff.1 h)
theorem idsT_out {l : List Le} {k : Nat} (h : hasN (idsT l k) (la l k).qu = false) : insD (idsT l k) (la l k).qu = idsT l (k + 1) := insD_eq (fun hm => by rw [hasN_iff.2 hm] at h; cases h)
theorem insI_len (n : Int) : ∀ (l : List Int), (insI n l).length ≤ l.length + 1 := by
  intro l
  induction l with
  | nil => exact Nat.le_refl _
  | cons y r ih =>
    unfold insI
    split
    · simp
    · split
      · simp
      · simp; omega
theorem idsT_len (l : List Le) : ∀ k, (idsT l k).length ≤ k := by
  intro k
  induction k with
  | zero => exact Nat.le_refl _
  | succ k ih => have := insI_len (la l k).qu (idsT l k); unfold idsT; omega
/-- Sums of leases that are right aren't below nought. -/
theorem useT_pos {l : List Le} (hg : gdB l = true) (q : Int) {k : Nat} (hk : k ≤ l.length) : 0 ≤ (useT l q k).1 ∧ 0 ≤ (useT l q k).2 := by
  rw [useT_sum l q hk]
  have := sumL_le (q := q) (List.take_sublist k l) hg
  exact ⟨this.1, this.2.2.1⟩
theorem useT_cons (l : List Le) (q : Int) (k : Nat) : useT l q (k + 1) = if (la l k).qu = q then ((useT l q k).1 + ((la l k).sl : Int), (useT l q k).2 + (la l k).me) else useT l q k := rfl
/-- The error, told by the sums of all. -/
theorem useErr_over {l : List Le} (hg : gdB l = true) {q : Int} (h : okv (useT l q l.length) = false) : useErr l = 2 := by
  unfold useErr
  rw [if_pos hg]
  cases hf : fitT l l.length with
  | true => rw [fitT_ok hf] at h; cases h
  | false => rfl
theorem useErr_fine {l : List Le} (hg : gdB l = true) (h : ∀ q ∈ idsT l l.length, okv (useT l q l.length) = true) (hok : ∀ x ∈ l, x.okB) : useErr l = 0 := by
  unfold useErr
  rw [if_pos hg, if_pos]
  refine fitT_all (fun k hk => ?_) _ (Nat.le_refl _)
  have hm : (la l k).qu ∈ idsT l l.length := by
    refine ((riseT hok (Nat.le_refl _)).2.1 _).2 ?_
    have : ∀ {m : Nat}, k < m → hasT l (la l k).qu m = true := by
      intro m
      induction m with
      | zero => intro h; omega
      | succ m ih =>
        intro h
        show (hasT l _ m || decide _) = true
        rcases Nat.lt_or_ge k m with h1 | h1
        · rw [ih h1]; rfl
        · obtain rfl : k = m := by omega
          simp
    exact this hk
  have h2 := okv_true (h _ hm)
  rw [useT_sum l _ (by omega)]
  have h1 := sumL_le (q := (la l k).qu) (List.take_sublist (k + 1) l) hg
  rw [useT_sum l _ (Nat.le_refl _), List.take_length] at h2
  obtain ⟨⟨a1, a2⟩, a3, a4⟩ := h2
  unfold okv okp
  rw [decide_eq_true_eq]
  refine ⟨⟨?_, ?_⟩, ?_, ?_⟩ <;> omega
theorem useErr_bad {l : List Le} {k : Nat} (h : k < l.length) (e : (la l k).gd = false) : useErr l = 1 := by
  unfold useErr; rw [gdB_no h e]; rfl
end Go.Proofs.Ytdbkjcnanffibaa
