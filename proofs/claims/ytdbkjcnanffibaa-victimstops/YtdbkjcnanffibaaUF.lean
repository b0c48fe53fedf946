/-
  Contracts of victim: read.
-/
import Derived.Test.YtdbkjcnanffibaaUE
import Derived.Test.YtdbkjcnanffibaaRU
import Derived.Test.YtdbkjcnanffibaaQK
namespace Go.Proofs.Ytdbkjcnanffibaa
open Go.RowKit Go.Deep Go.Maps Go.Shelf
set_option linter.unusedVariables false
set_option linter.unusedSimpArgs false

/-- A number put into a rising list. -/
def insI (x : Int) : List Int → List Int
  | [] => [x]
  | y :: r => if x < y then x :: y :: r else if x = y then y :: r else y :: insI x r
theorem mem_insI {x z : Int} : ∀ {l : List Int}, z ∈ insI x l ↔ z = x ∨ z ∈ l := by
  intro l
  induction l with
  | nil => simp [insI]
  | cons y r ih =>
    unfold insI
    split
    · simp
    · split
      · rename_i h; subst h; simp
      · rw [List.mem_cons, ih, List.mem_cons]
        constructor
        · rintro (h | h | h)
          · exact .inr (.inl h)
          · exact .inl h
          · exact .inr (.inr h)
        · rintro (h | h | h)
          · exact .inr (.inl h)
          · exact .inl h
          · exact .inr (.inr h)
theorem rise_insI {x : Int} : ∀ {l : List Int}, l.Pairwise (· < ·) → (insI x l).Pairwise (· < ·) := by
  intro l
  induction l with
  | nil => intro _; simp [insI]
  | cons y r ih =>
    intro h
    have h' := List.pairwise_cons.1 h
    unfold insI
    split
    · rename_i hlt
      refine List.pairwise_cons.2 ⟨fun z hz => ?_, h⟩
      rcases List.mem_cons.1 hz with rfl | hz
      · exact hlt
      · have := h'.1 z hz; omega
    · split
      · exact h
      · rename_i h1 h2
        refine List.pairwise_cons.2 ⟨fun z hz => ?_, ih h'.2⟩
        rcases mem_insI.1 hz with rfl | hz
        · omega
        · exact h'.1 z hz
/-- The queues of the first k leases, rising. -/
def idsT (l : List Le) : Nat → List Int
  | 0 => []
  | k + 1 => insI (la l k).qu (idsT l k)
theorem riseT {l : List Le} (hok : ∀ x ∈ l, x.okB) : ∀ {k : Nat}, k ≤ l.length → RiseOf (fun q => hasT l q k) (idsT l k) := by
  intro k
  induction k with
  | zero => intro _; exact ⟨List.Pairwise.nil, fun x => by simp [idsT, hasT], fun x hx => by cases hx⟩
  | succ k ih =>
    intro hk
    obtain ⟨h1, h2, h3⟩ := ih (by omega)
    refine ⟨rise_insI h1, fun x => ?_, fun x hx => ?_⟩
    · show x ∈ insI _ _ ↔ (hasT l x k || decide (x = (la l k).qu)) = true
      rw [mem_insI, h2 x, Bool.or_eq_true, decide_eq_true_eq]
      exact Or.comm
    · rcases mem_insI.1 hx with rfl | hx
      · exact (hok _ (la_mem (by omega))).1
      · exact h3 x hx
/-- What leaves use by leases. -/
def useV (l : List Le) : List Us := usesOf (fun q => useT l q l.length) (idsT l l.length)
theorem useV_q {l : List Le} (hok : ∀ x ∈ l, x.okB) : ∀ u ∈ useV l, I64 u.qu := by
  intro u hu
  obtain ⟨q, hq, rfl⟩ := List.mem_map.1 hu
  exact (riseT hok (Nat.le_refl _)).2.2 q hq
/-- The list of 'Uses', told by what it is. -/
theorem AnsS.is {lo : Nat} {w : World} {v : Value} {er : Int} {l : List Le} (hok : ∀ x ∈ l, x.okB) (h : AnsS lo w v er l) (he : er = 0) : OwnE 45 3 Us.cs lo w v (useV l).length (useV l) ∧ (useV l).length ≤ l.length := by
  rcases h with ⟨h, _⟩ | ⟨_, ids, h1, h2, h3⟩
  · exact absurd he h
  · have e := h1.eq (riseT hok (Nat.le_refl _))
    subst e
    unfold useV
    rw [usesOf_len]
    exact ⟨h3, h2⟩

/-- The queue of an Id among the first k: the last one that has it. -/
def qfT (l : List Qu) (id : Int) : Nat → Option Qu
  | 0 => none
  | k + 1 => if (qa l k).id = id then some (qa l k) else qfT l id k
/-- How a queue in a map reads. -/
def qd (q : Qu) : DataW Unit := .agg [.lit (.int .i64 q.id), .lit (.int .i64 q.par), .lit (.int .i64 q.wt), .lit (.int .i64 q.qc), .lit (.int .i64 q.qm), .lit (.int .i64 q.mc), .lit (.int .i64 q.mm)]
def quElem (v : Value) : Option (DataW Unit × List MemPlace) :=
  match v with
  | .agg a => (match a.toList with
    | [.int .i64 a1, .int .i64 a2, .int .i64 a3, .int .i64 a4, .int .i64 a5, .int .i64 a6, .int .i64 a7] => some (qd ⟨a1, a2, a3, a4, a5, a6, a7⟩, [])
    | _ => none)
  | _ => none
theorem quElem_mk (q : Qu) : quElem (.agg #[.int .i64 q.id, .int .i64 q.par, .int .i64 q.wt, .int .i64 q.qc, .int .i64 q.qm, .int .i64 q.mc, .int .i64 q.mm]) = some (qd q, []) := rfl
theorem quElem_inv {v : Value} {q : Qu} {ps : List MemPlace} (h : quElem v = some (qd q, ps)) : v = .agg #[.int .i64 q.id, .int .i64 q.par, .int .i64 q.wt, .int .i64 q.qc, .int .i64 q.qm, .int .i64 q.mc, .int .i64 q.mm] := by
  unfold quElem at h
  split at h
  · rename_i cs
    split at h
    · rename_i e
      simp [qd] at h
      obtain ⟨⟨h1, h2, h3, h4, h5, h6, h7⟩, _⟩ := h
      obtain ⟨cs⟩ := cs
      simp only at e
      subst e
      rw [h1, h2, h3, h4, h5, h6, h7]
    · cases h
  · cases h
/-- Queues in a map, by their Ids. -/
def QMp (w : World) (b n : Nat) (f : Int → Option Qu) : Prop := ∃ D : DataW Unit, w.ownsMap Try.prog 3 quElem b n D ∧ ∀ id : Int, D.atKey (.int .i64 id) (qd q0) = qd ((f id).getD q0)
theorem QMp.same {w w' : World} {b n : Nat} {f : Int → Option Qu} (h : QMp w b n f) (hb : w'.heap[b]? = w.heap[b]?) : QMp w' b n f := by
  obtain ⟨D, ⟨es, clock, h1, h2⟩, h3⟩ := h
  exact ⟨D, ⟨es, clock, hb.trans h1, h2⟩, h3⟩
theorem QMp.lt {w : World} {b n : Nat} {f : Int → Option Qu} (h : QMp w b n f) : b < w.heap.size := by
  obtain ⟨D, ⟨es, clock, h1, h2⟩, h3⟩ := h
  exact (Array.getElem?_eq_some_iff.1 h1).1
theorem QMp.below {w w' : World} {b n : Nat} {f : Int → Option Qu} (h : QMp w b n f) (hb : Below w.heap.size w w') : QMp w' b n f := h.same (hb.block b h.lt)
theorem zeroQ8 (w : World) : (zeroValue 53).run Try.prog w = .ok (.agg #[.int .i64 0, .int .i64 0, .int .i64 0, .int .i64 0, .int .i64 0, .int .i64 0, .int .i64 0]) w := by kernel_rfl
theorem QMp.look {w : World} {b n : Nat} {f : Int → Option Qu} {x : Int} {q : Qu} (h : QMp w b n f) (hx : I64 x) (hq : (f x).getD q0 = q) : Sem.run Try.prog (Instr.lookup 62 (.map (some b)) (.int .i64 x) false) w = .ok (.agg #[.int .i64 q.id, .int .i64 q.par, .int .i64 q.wt, .int .i64 q.qc, .int .i64 q.qm, .int .i64 q.mc, .int .i64 q.mm]) w := by
  obtain ⟨D, hown, hD⟩ := h
  obtain ⟨v, ps, hrun, hv⟩ := hown.lookup lawV Try.underlying62 (zeroQ8 _) (zd := qd q0) (zp := []) (quElem_mk q0) (keyV hx)
  rw [hD x, hq] at hv
  obtain rfl := quElem_inv hv
  exact hrun
theorem QMp.put {w : World} {b n : Nat} {f : Int → Option Qu} {q : Qu} (h : QMp w b n f) (hx : I64 q.id) (hn : n < maxLen) : ∃ w', Sem.run Try.prog (Instr.mapUpdate 62 (.map (some b)) (.int .i64 q.id) (.agg #[.int .i64 q.id, .int .i64 q.par, .int .i64 q.wt, .int .i64 q.qc, .int .i64 q.qm, .int .i64 q.mc, .int .i64 q.mm])) w = .ok () w' ∧ QMp w' b (n + 1) (fun y => if q.id = y then some q else f y) ∧ w.grownBy w' (some b) := by
  obtain ⟨D, hown, hD⟩ := h
  obtain ⟨w', hrun, h1, h2⟩ := hown.update lawV Try.underlying62 hn (keyV hx) (d := qd q) (ps := []) (quElem_mk q)
  refine ⟨w', hrun, ⟨_, h1, fun id => ?_⟩, h2⟩
  by_cases e : id = q.id
  · subst e
    rw [atKey_put_same hown.isMap (by trivial)]
    simp
  · have hne : (Lit.int .i64 id) ≠ .int .i64 q.id := fun h => e (by injection h)
    rw [atKey_put_other hne, hD id]
    simp only [if_neg (Ne.symm e)]
theorem qmp_made (w : World) : QMp (w.alloc (.map #[] 0)) w.heap.size 0 (fun _ => none) := ⟨_, World.ownsMap_made _ _ _ _, fun id => by simp [DataW.atKey]⟩
end Go.Proofs.Ytdbkjcnanffibaa
