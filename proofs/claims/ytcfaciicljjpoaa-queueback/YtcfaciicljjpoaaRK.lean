/-
  Queues added and dropped, set and set back: lists.
-/
import Derived.Test.YtcfaciicljjpoaaRJ
import Derived.Test.YtcfaciicljjpoaaQS
import Derived.Laws.StructEq
namespace Go.Proofs.Ytcfaciicljjpoaa
open Go.RowKit Go.Deep Go.Maps Go.Shelf
set_option linter.unusedVariables false

theorem qa_ins {l : List Qu} {q : Qu} {s i : Nat} (hs : s ≤ l.length) : qa (insQ l s q) i = if i < s then qa l i else if i = s then q else qa l (i - 1) := by
  have hl : (l.take s).length = s := by rw [List.length_take]; omega
  unfold qa insQ
  by_cases h1 : i < s
  · rw [if_pos h1, List.getElem?_append_left (by omega), List.getElem?_take_of_lt h1]
  · rw [if_neg h1, List.getElem?_append_right (by omega), hl]
    by_cases h2 : i = s
    · rw [if_pos h2, h2, Nat.sub_self]; rfl
    · rw [if_neg h2, show i - s = (i - s - 1) + 1 by omega, List.getElem?_cons_succ, List.getElem?_drop, show s + (i - s - 1) = i - 1 by omega]
theorem qa_set {l : List Qu} {q : Qu} {p i : Nat} (hp : p < l.length) : qa (l.set p q) i = if i = p then q else qa l i := by
  unfold qa
  by_cases h : i = p
  · rw [if_pos h, h, List.getElem?_set_self hp]; rfl
  · rw [if_neg h, List.getElem?_set_ne (by omega)]

theorem addE_zero {l : List Qu} {q : Qu} (h : addE l q = 0) : chkE l = 0 ∧ hasQ l q.id = false ∧ hasQ l q.par = true ∧ chkE (addM l q) = 0 := by
  unfold addE at h
  split at h
  · rename_i h2; exact absurd h h2
  · rename_i h1
    split at h
    · cases h
    · rename_i h2
      split at h
      · cases h
      · split at h
        · cases h
        · rename_i h4
          refine ⟨Decidable.of_not_not h1, ?_, ?_, h⟩
          · cases hh : hasQ l q.id
            · rfl
            · exact absurd hh h2
          · cases hh : hasQ l q.par
            · exact absurd hh h4
            · rfl
theorem setE_zero {l : List Qu} {q : Qu} (h : setE l q = 0) : chkE l = 0 ∧ hasQ l q.id = true ∧ (qa l (pl l q.id)).par = q.par ∧ chkE (setM l q) = 0 := by
  unfold setE at h
  split at h
  · rename_i h2; exact absurd h h2
  · rename_i h1
    split at h
    · cases h
    · rename_i h2
      split at h
      · cases h
      · rename_i h3
        refine ⟨Decidable.of_not_not h1, ?_, Decidable.of_not_not h3, h⟩
        cases hh : hasQ l q.id
        · exact absurd hh h2
        · rfl

/-- What was added can be dropped. -/
theorem drop_added {l : List Qu} {q : Qu} (h : addE l q = 0) : dropE (addM l q) q.id = 0 ∧ dropM (addM l q) q.id = l ∧ (addM l q).length = l.length + 1 := by
  obtain ⟨hC, hX, hY, hM⟩ := addE_zero h
  have hF := (chkE_ok.1 hC).2.1
  have hF2 := (chkE_ok.1 hM).2.1
  have hs : sp l q.id ≤ l.length := sp_le l q.id
  have hlen : (addM l q).length = l.length + 1 := insQ_len hs
  have hat : ∀ i, qa (addM l q) i = if i < sp l q.id then qa l i else if i = sp l q.id then q else qa l (i - 1) := fun i => qa_ins hs
  have hne : ∀ i, i < l.length → (qa l i).id ≠ q.id := fun i hi e => by
    have : hasQ l q.id = true := hasQ_iff.2 ⟨i, hi, e⟩
    rw [hX] at this; cases this
  have hself : qa (addM l q) (sp l q.id) = q := by rw [hat, if_neg (by omega), if_pos rfl]
  have hpl : pl (addM l q) q.id = sp l q.id := pl_eq (by omega) (fun i hi => by rw [hat, if_pos hi]; exact hne i (by omega)) (by rw [hself])
  have hh : hasQ (addM l q) q.id = true := decide_eq_true (by rw [hpl, hlen]; omega)
  have hnn : 0 ≤ q.id := by
    have := hF2.id_nonneg (i := sp l q.id) (by omega)
    rw [hself] at this
    exact this
  have h0 : q.id ≠ 0 := fun e => hne 0 hF.1 (by rw [hF.root.1, e])
  have hparl : ∀ j, j < l.length → (qa l j).par ≠ q.id := fun j hj e => by
    rcases Nat.eq_zero_or_pos j with hz | hz
    · subst hz
      rw [hF.root.2] at e
      omega
    · have hu := hF.up hj (by omega)
      have : hasQ l (qa l j).par = true := decide_eq_true (by omega)
      rw [e, hX] at this; cases this
  have hleaf : leafB (addM l q) q.id = true := by
    unfold leafB kids
    rw [List.isEmpty_iff, List.filter_eq_nil_iff]
    intro i _
    simp only [decide_eq_true_eq]
    rw [hat]
    have hi := i.2
    split
    · exact hparl _ (by omega)
    · split
      · intro e
        rw [e, hX] at hY; cases hY
      · exact hparl _ (by omega)
  refine ⟨?_, ?_, hlen⟩
  · unfold dropE
    rw [if_neg (by rw [hM]; decide), if_neg (by rw [hh]; decide), if_neg h0, if_neg (by rw [hleaf]; decide)]
  · unfold dropM
    rw [hpl]
    have hl : (l.take (sp l q.id)).length = sp l q.id := by rw [List.length_take]; omega
    have e1 : (addM l q).take (sp l q.id) = l.take (sp l q.id) := by unfold addM insQ; rw [List.take_left' hl]
    have e2 : (addM l q).drop (sp l q.id + 1) = l.drop (sp l q.id) := by
      unfold addM insQ
      rw [show l.take (sp l q.id) ++ q :: l.drop (sp l q.id) = (l.take (sp l q.id) ++ [q]) ++ l.drop (sp l q.id) by simp]
      rw [List.drop_left' (by rw [List.length_append, hl]; rfl)]
    rw [e1, e2, List.take_append_drop]
/-- What was set can be set back. -/
theorem set_back {l : List Qu} {q : Qu} (h : setE l q = 0) : setE (setM l q) (qa l (pl l q.id)) = 0 ∧ setM (setM l q) (qa l (pl l q.id)) = l ∧ pl l q.id < l.length ∧ qa (setM l q) (pl l q.id) = q ∧ (qa l (pl l q.id)).id = q.id := by
  obtain ⟨hC, hX, hP, hM⟩ := setE_zero h
  have hp : pl l q.id < l.length := of_decide_eq_true hX
  have hid' := pl_id hp
  have hat : ∀ i, qa (setM l q) i = if i = pl l q.id then q else qa l i := fun i => qa_set hp
  have hself : qa (setM l q) (pl l q.id) = q := by rw [hat, if_pos rfl]
  have hbef : ∀ i, i < pl l q.id → (qa l i).id ≠ q.id := fun i hi e => by
    have h1 := (chkE_ok.1 hC).2.1.pl (i := i) (by omega)
    rw [e] at h1
    omega
  have hpl : pl (setM l q) q.id = pl l q.id := pl_eq (by rw [setM_len]; exact hp) (fun i hi => by rw [hat, if_neg (by omega)]; exact hbef i hi) (by rw [hself])
  have hM2 : setM (setM l q) (qa l (pl l q.id)) = l := by
    have : setM (setM l q) (qa l (pl l q.id)) = (l.set (pl l q.id) q).set (pl l q.id) (qa l (pl l q.id)) := by
      unfold setM
      rw [hid']
      have := hpl
      unfold setM at this
      rw [this]
    rw [this, List.set_set, ← qa_at hp, List.set_getElem_self]
  refine ⟨?_, hM2, hp, hself, hid'⟩
  unfold setE
  rw [if_neg (by rw [hM]; decide), if_neg, if_neg, hM2, hC]
  · rw [hid', hpl, hself]
    intro hn
    exact hn hP.symm
  · rw [hid']
    have : hasQ (setM l q) q.id = true := decide_eq_true (by rw [hpl, setM_len]; exact hp)
    rw [this]; decide

theorem eql_same (a b c d e f g : Int) (w : World) : Sem.run Try.prog (binOp BinOp.eql 26 (.agg #[.int .i64 a, .int .i64 b, .int .i64 c, .int .i64 d, .int .i64 e, .int .i64 f, .int .i64 g]) (.agg #[.int .i64 a, .int .i64 b, .int .i64 c, .int .i64 d, .int .i64 e, .int .i64 f, .int .i64 g])) w = .ok (.bool true) w := by
  have hS : Try.prog.underlying 26 = some (.struct (Try.prog.fieldsOf 26)) := by kernel_rfl
  have hp : Try.prog.stoodInHeld 26 = false := by kernel_rfl
  have hS2 : Try.prog.underlying 24 = some (.struct (Try.prog.fieldsOf 24)) := by kernel_rfl
  have hp2 : Try.prog.stoodInHeld 24 = false := by kernel_rfl
  have u3 := Try.underlying3
  have a3 := Try.isAgg3
  have z3 := Try.sizeOf3
  have u2 := Try.underlying2
  have a2 := Try.isAgg2
  have z2 := Try.sizeOf2
  have a24 := Try.isAgg24
  have z24 := Try.sizeOf24
  have e24 : ∀ (d : Nat) (x y : Int) (w : World), (Op.equalIn (d + 2) 24 (.agg #[.int .i64 x, .int .i64 y]) (.agg #[.int .i64 x, .int .i64 y])).run Try.prog w = .ok true w := fun d x y w => by
    rw [run_equalIn_agg w (d + 1) 24 _ _ hS2 hp2]
    simp only [Program.fieldsOf, Try.underlying24]
    go_simp
  rw [run_eql_struct, show (10000 : Nat) = 9999 + 1 from rfl, run_equalIn_agg w 9999 26 _ _ hS hp]
  simp only [Program.fieldsOf, Try.underlying26]
  go_simp

end Go.Proofs.Ytcfaciicljjpoaa
