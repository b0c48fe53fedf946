/-
  Queues: what they are, trees of queues, places; plain mathematics, no program.
-/
import Derived.Test.YtdbkjcnanffibaaGreatVD
namespace Go.Proofs.YtdbkjcnanffibaaGreat
open Go.RowKit
set_option linter.unusedVariables false

/-- A queue. -/
structure Qu where
  id : Int
  par : Int
  wt : Int
  qc : Int
  qm : Int
  mc : Int
  mm : Int

def q0 : Qu := ⟨0, 0, 0, 0, 0, 0, 0⟩
def Qu.cs (q : Qu) : List Value := [.int .i64 q.id, .int .i64 q.par, .int .i64 q.wt, .int .i64 q.qc, .int .i64 q.qm, .int .i64 q.mc, .int .i64 q.mm]
def Qu.ok (q : Qu) : Prop := I64 q.id ∧ I64 q.par ∧ I64 q.wt ∧ I64 q.qc ∧ I64 q.qm ∧ I64 q.mc ∧ I64 q.mm
theorem Qu.cs_len (q : Qu) : q.cs.length = 7 := rfl
theorem q0_ok : q0.ok := by unfold q0 Qu.ok I64; simp
def eqQ (x y : Qu) : Bool := decide (x.id = y.id) && decide (x.par = y.par) && decide (x.wt = y.wt) && decide (x.qc = y.qc) && decide (x.qm = y.qm) && decide (x.mc = y.mc) && decide (x.mm = y.mm)
theorem eqQ_iff {x y : Qu} : eqQ x y = true ↔ x = y := by
  unfold eqQ
  cases x; cases y
  simp [and_assoc]
theorem eqQ_false {x y : Qu} : eqQ x y = false ↔ x ≠ y := by
  rw [← Bool.not_eq_true, eqQ_iff]

/-- The queue at a place. -/
def qa (l : List Qu) (i : Nat) : Qu := l[i]?.getD q0
theorem qa_get {l : List Qu} {i : Nat} (h : i < l.length) : l[i]? = some (qa l i) := by unfold qa; rw [List.getElem?_eq_getElem h]; rfl
theorem qa_eq {l : List Qu} {i : Nat} (h : i < l.length) : qa l i = l[i] := by unfold qa; rw [List.getElem?_eq_getElem h]; rfl
theorem qa_mem {l : List Qu} {i : Nat} (h : i < l.length) : qa l i ∈ l := by rw [qa_eq h]; exact List.getElem_mem _
theorem qa_ok {l : List Qu} (h : ∀ q ∈ l, q.ok) (i : Nat) : (qa l i).ok := by
  by_cases hi : i < l.length
  · exact h _ (qa_mem hi)
  · unfold qa; rw [List.getElem?_eq_none (by omega)]; exact q0_ok

/-- The place of an Id; the length, if it isn't there. -/
def pl (l : List Qu) (id : Int) : Nat := l.findIdx (fun q => decide (q.id = id))
theorem pl_le (l : List Qu) (id : Int) : pl l id ≤ l.length := List.findIdx_le_length
theorem pl_id {l : List Qu} {id : Int} (h : pl l id < l.length) : (qa l (pl l id)).id = id := by
  rw [qa_eq h]
  have := List.findIdx_getElem (w := h)
  unfold pl
  simpa using this
theorem pl_first {l : List Qu} {id : Int} {i : Nat} (h : i < pl l id) : (qa l i).id ≠ id := by
  have hl := pl_le l id
  rw [qa_eq (by omega)]
  have := List.not_of_lt_findIdx h
  simpa using this
theorem pl_upto {l : List Qu} {id : Int} {k : Nat} (hk : k ≤ l.length) (h : ∀ i, i < k → (qa l i).id ≠ id) : k ≤ pl l id := by
  rcases Nat.lt_or_ge (pl l id) k with h1 | h1
  · exact absurd (pl_id (by omega)) (h _ h1)
  · exact h1
theorem pl_eq {l : List Qu} {id : Int} {k : Nat} (hk : k < l.length) (h : ∀ i, i < k → (qa l i).id ≠ id) (e : (qa l k).id = id) : pl l id = k := by
  have h1 := pl_upto (Nat.le_of_lt hk) h
  rcases Nat.lt_or_ge k (pl l id) with h2 | h2
  · exact absurd e (pl_first h2)
  · omega
theorem pl_lt_of {l : List Qu} {id : Int} {k : Nat} (hk : k < l.length) (e : (qa l k).id = id) : pl l id ≤ k := by
  rcases Nat.lt_or_ge k (pl l id) with h2 | h2
  · exact absurd e (pl_first h2)
  · exact h2
theorem pl_take {l : List Qu} {id : Int} {k : Nat} (hk : k ≤ l.length) : (pl (l.take k) id < k ↔ pl l id < k) := by
  have hq : ∀ i, i < k → qa (l.take k) i = qa l i := fun i hi => by unfold qa; rw [List.getElem?_take, if_pos hi]
  have hlen : (l.take k).length = k := by simp; omega
  constructor
  · intro h
    have := pl_id (l := l.take k) (id := id) (by omega)
    rw [hq _ h] at this
    exact Nat.lt_of_le_of_lt (pl_lt_of (by omega) this) h
  · intro h
    have := pl_id (l := l) (id := id) (by omega)
    rw [← hq _ h] at this
    exact Nat.lt_of_le_of_lt (pl_lt_of (by omega) this) h

/-- Is the queue at a place in order there? -/
def okAt (l : List Qu) (i : Nat) : Bool :=
  if i = 0 then decide ((qa l 0).id = 0) && decide ((qa l 0).par = -1) else decide ((qa l (i - 1)).id < (qa l i).id) && decide (pl l (qa l i).par < i)
/-- Is a list of the form? -/
def Form (l : List Qu) : Prop := 0 < l.length ∧ ∀ i, i < l.length → okAt l i = true
def formB (l : List Qu) : Bool := decide (0 < l.length) && (List.range l.length).all (okAt l)
theorem formB_iff {l : List Qu} : formB l = true ↔ Form l := by unfold formB Form; simp
theorem formB_no {l : List Qu} {i : Nat} (h : i < l.length) (e : okAt l i = false) : formB l = false := by
  cases hf : formB l
  · rfl
  · have := (formB_iff.1 hf).2 i h
    rw [e] at this; cases this

/-- Ids that rise, up to a place. -/
theorem okAt_rise {l : List Qu} {k : Nat} (hk : k ≤ l.length) (h : ∀ i, i < k → okAt l i = true) : ∀ j i, i < j → j < k → (qa l i).id < (qa l j).id := by
  intro j
  induction j with
  | zero => intro i hi; omega
  | succ j ih =>
    intro i hi hj
    have h1 := h (j + 1) hj
    unfold okAt at h1
    rw [if_neg (by omega)] at h1
    simp at h1
    rcases Nat.lt_or_ge i j with h2 | h2
    · have := ih i h2 (by omega); omega
    · obtain rfl : i = j := by omega
      exact h1.1
theorem okAt_pl {l : List Qu} {k : Nat} (hk : k ≤ l.length) (h : ∀ i, i < k → okAt l i = true) {i : Nat} (hi : i < k) : pl l (qa l i).id = i :=
  pl_eq (by omega) (fun j hj => by have := okAt_rise hk h i j hj hi; omega) rfl

theorem Form.rise {l : List Qu} (h : Form l) {i j : Nat} (hij : i < j) (hj : j < l.length) : (qa l i).id < (qa l j).id := okAt_rise (Nat.le_refl _) h.2 j i hij hj
theorem Form.pl {l : List Qu} (h : Form l) {i : Nat} (hi : i < l.length) : pl l (qa l i).id = i := okAt_pl (Nat.le_refl _) h.2 hi
theorem Form.root {l : List Qu} (h : Form l) : (qa l 0).id = 0 ∧ (qa l 0).par = -1 := by
  have := h.2 0 h.1
  unfold okAt at this
  simpa using this
theorem Form.up {l : List Qu} (h : Form l) {i : Nat} (hi : i < l.length) (h0 : i ≠ 0) : Proofs.YtdbkjcnanffibaaGreat.pl l (qa l i).par < i := by
  have := h.2 i hi
  unfold okAt at this
  rw [if_neg h0] at this
  simp at this
  exact this.2
theorem Form.id_nonneg {l : List Qu} (h : Form l) {i : Nat} (hi : i < l.length) : 0 ≤ (qa l i).id := by
  rcases Nat.eq_zero_or_pos i with rfl | hp
  · rw [h.root.1]; omega
  · have := h.rise hp hi
    rw [h.root.1] at this; omega
theorem Form.par_nonneg {l : List Qu} (h : Form l) {i : Nat} (hi : i < l.length) (h0 : i ≠ 0) : 0 ≤ (qa l i).par := by
  have h1 := h.up hi h0
  have h2 := pl_id (l := l) (id := (qa l i).par) (by omega)
  rw [← h2]
  exact h.id_nonneg (by omega)

/-- Is there such a queue? -/
def hasQ (l : List Qu) (id : Int) : Bool := decide (pl l id < l.length)
theorem hasQ_iff {l : List Qu} {id : Int} : hasQ l id = true ↔ ∃ i, i < l.length ∧ (qa l i).id = id := by
  unfold hasQ
  rw [decide_eq_true_eq]
  constructor
  · intro h; exact ⟨_, h, pl_id h⟩
  · rintro ⟨i, hi, e⟩; exact Nat.lt_of_le_of_lt (pl_lt_of hi e) hi

/-- Weights and amounts. -/
def argQ (q : Qu) : Bool := okw q.wt && okv (q.qc, q.qm) && okv (q.mc, q.mm)
def argB (l : List Qu) : Bool := l.all argQ
/-- The sums of the Mins of a queue's children. -/
def sumc : List Qu → Int → Int
  | [], _ => 0
  | c :: l, id => (if c.par = id then c.mc else 0) + sumc l id
def summ : List Qu → Int → Int
  | [], _ => 0
  | c :: l, id => (if c.par = id then c.mm else 0) + summ l id
theorem sumc_snoc (l : List Qu) (c : Qu) (id : Int) : sumc (l ++ [c]) id = sumc l id + if c.par = id then c.mc else 0 := by
  induction l with
  | nil => simp [sumc]
  | cons y l ih => simp [sumc, ih]; omega
theorem summ_snoc (l : List Qu) (c : Qu) (id : Int) : summ (l ++ [c]) id = summ l id + if c.par = id then c.mm else 0 := by
  induction l with
  | nil => simp [summ]
  | cons y l ih => simp [summ, ih]; omega
def minQ (l : List Qu) (q : Qu) : Bool := fitB q.mc q.mm q.qc q.qm && decide (sumc l q.id ≤ q.mc) && decide (summ l q.id ≤ q.mm)
def minsB (l : List Qu) : Bool := l.all (minQ l)
/-- Check's answer. -/
def chkE (l : List Qu) : Int := if 64 < l.length then 3 else if formB l = false then 4 else if argB l = false then 1 else if minsB l = false then 11 else 0
/-- A right list. -/
def Good (l : List Qu) : Prop := l.length ≤ 64 ∧ Form l ∧ argB l = true ∧ minsB l = true
theorem chkE_ok {l : List Qu} : chkE l = 0 ↔ Good l := by
  unfold chkE Good
  by_cases h1 : 64 < l.length
  · simp [h1]
    try omega
  · cases h2 : formB l
    · have : ¬ Form l := fun h => by have := formB_iff.2 h; rw [h2] at this; cases this
      simp [h1, this]
    · have := formB_iff.1 h2
      cases h3 : argB l
      · simp [h1, this]
      · cases h4 : minsB l
        · simp [h1, this]
        · simp [this]
          try omega

theorem arg_at {l : List Qu} (h : argB l = true) {q : Qu} (hq : q ∈ l) : okw q.wt = true ∧ okv (q.qc, q.qm) = true ∧ okv (q.mc, q.mm) = true := by
  have := List.all_eq_true.1 h q hq
  unfold argQ at this
  simp only [Bool.and_eq_true] at this
  exact ⟨this.1.1, this.1.2, this.2⟩

theorem sum_bd {l : List Qu} (h : argB l = true) (id : Int) : 0 ≤ sumc l id ∧ 0 ≤ summ l id ∧ sumc l id ≤ l.length * 1099511627776 ∧ summ l id ≤ l.length * 1099511627776 := by
  induction l with
  | nil => simp [sumc, summ]
  | cons c l ih =>
    have hc := (arg_at h (List.mem_cons_self)).2.2
    have hl : argB l = true := by
      unfold argB at h ⊢
      simp only [List.all_cons, Bool.and_eq_true] at h
      exact h.2
    have hh := ih hl
    have hv := okv_true hc
    unfold okp at hv
    simp only at hv
    simp only [sumc, summ, List.length_cons]
    split <;> omega

theorem take_snocQ {l : List Qu} {k : Nat} (h : k < l.length) : l.take (k + 1) = l.take k ++ [qa l k] := by
  rw [List.take_succ_eq_append_getElem h, qa_eq h]
theorem argB_take {l : List Qu} (h : argB l = true) (k : Nat) : argB (l.take k) = true := by
  unfold argB at h ⊢
  rw [List.all_eq_true] at h ⊢
  exact fun q hq => h q (List.mem_of_mem_take hq)
/-- Sums only grow. -/
theorem sum_take_le {l : List Qu} (h : argB l = true) (id : Int) (k : Nat) : sumc (l.take k) id ≤ sumc l id ∧ summ (l.take k) id ≤ summ l id := by
  induction l generalizing k with
  | nil => simp [sumc, summ]
  | cons c l ih =>
    have hc := (arg_at h (List.mem_cons_self)).2.2
    have hl : argB l = true := by
      unfold argB at h ⊢
      simp only [List.all_cons, Bool.and_eq_true] at h
      exact h.2
    have hv := okv_true hc
    unfold okp at hv
    simp only at hv
    cases k with
    | zero =>
      have hb := sum_bd hl id
      simp only [List.take_zero, sumc, summ]
      split <;> omega
    | succ k =>
      have := ih hl k
      simp only [List.take_succ_cons, sumc, summ]
      omega

/-- The places from a queue up to the root. -/
def pth (l : List Qu) (i : Nat) : List Nat := i :: (if h : pl l (qa l i).par < i then pth l (pl l (qa l i).par) else [])
termination_by i
theorem pth_root {l : List Qu} {i : Nat} (h : ¬ pl l (qa l i).par < i) : pth l i = [i] := by rw [pth, dif_neg h]
theorem pth_step {l : List Qu} {i : Nat} (h : pl l (qa l i).par < i) : pth l i = i :: pth l (pl l (qa l i).par) := by rw [pth, dif_pos h]
theorem pth_le {l : List Qu} : ∀ i j, j ∈ pth l i → j ≤ i := by
  intro i
  induction i using Nat.strongRecOn with
  | _ i ih =>
    intro j hj
    by_cases h : pl l (qa l i).par < i
    · rw [pth_step h] at hj
      rcases List.mem_cons.1 hj with rfl | hj
      · omega
      · have := ih _ h j hj; omega
    · rw [pth_root h] at hj; simp at hj; omega
theorem pth_self (l : List Qu) (i : Nat) : i ∈ pth l i := by rw [pth]; simp
theorem pth_len {l : List Qu} : ∀ i, (pth l i).length ≤ i + 1 := by
  intro i
  induction i using Nat.strongRecOn with
  | _ i ih =>
    by_cases h : pl l (qa l i).par < i
    · rw [pth_step h]; have := ih _ h; simp; omega
    · rw [pth_root h]; simp

end Go.Proofs.YtdbkjcnanffibaaGreat
