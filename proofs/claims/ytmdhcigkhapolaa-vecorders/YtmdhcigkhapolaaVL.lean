/-
  Contracts of furlongref02: Share, DocShare.
-/
import Derived.Test.YtmdhcigkhapolaaVK
namespace Go.Proofs.Ytmdhcigkhapolaa
open Go.RowKit Go.Shelf
set_option linter.unusedVariables false

theorem above_fc {c m p q : Int} (oc : okp c) (om : okp m) (op : okp p) (oq : okp q) : decide ((shr c p).1 * (shr m q).2 < (shr m q).1 * (shr c p).2) = decide (0 < fc (shr m q) (shr c p)) := by
  unfold okp at oc om op oq
  have key : ((shr c p).1 * (shr m q).2 < (shr m q).1 * (shr c p).2) ↔ 0 < fc (shr m q) (shr c p) := by
    have z : ∀ a b : Int, okp a → okp b → (shr a b = (1, 0) ∨ 0 < (shr a b).2) := fun a b ha hb => by
      unfold shr; split
      · right; assumption
      · split
        · left; rfl
        · right; decide
    unfold fc
    rcases z m q om oq with h | h <;> rcases z c p oc op with k | k
    · rw [h, k]; decide
    · rw [h]; simp only; rw [if_pos (Or.inl trivial)]; unfold ord; repeat' split <;> omega
    · rw [k]; simp only; rw [if_pos (Or.inr trivial)]; unfold ord; repeat' split <;> omega
    · rw [if_neg (by omega)]; unfold ord; repeat' split <;> omega
  by_cases h : 0 < fc (shr m q) (shr c p)
  · rw [decide_eq_true h, decide_eq_true (key.2 h)]
  · rw [decide_eq_false h, decide_eq_false (fun k => h (key.1 k))]

theorem rshare_any (c m p q : Int) (oc : okp c) (om : okp m) (op : okp p) (oq : okp q) (w : World) :
    Calls Try.prog 64 #[.agg #[.int .i64 c, .int .i64 m], .agg #[.int .i64 p, .int .i64 q]] w fun e w' => e = .returned (.agg #[.int .i64 (dom c m p q).1, .int .i64 (dom c m p q).2]) ∧ Below w.heap.size w w' := by
  have f1 := shr_fr oc op
  have f2 := shr_fr om oq
  have AB := fun w => above_any (shr m q).1 (shr m q).2 (shr c p).1 (shr c p).2 f2.1.1 ⟨by have := f2.1.2.1; omega, f2.1.2.2⟩ f1.1.1 ⟨by have := f1.1.2.1; omega, f1.1.2.2⟩ w
  rw [above_fc oc om op oq] at AB
  by_cases h : 0 < fc (shr m q) (shr c p)
  · rw [decide_eq_true h] at AB
    rw [show dom c m p q = shr m q by unfold dom; rw [if_pos h]]
    exact rshare_yes c m p q _ _ _ _ w (hid (fun w => part_x c p w)) (hid (fun w => part_x m q w)) (hid AB)
  · rw [decide_eq_false h] at AB
    rw [show dom c m p q = shr c p by unfold dom; rw [if_neg h]]
    exact rshare_no c m p q _ _ _ _ w (hid (fun w => part_x c p w)) (hid (fun w => part_x m q w)) (hid AB)

end Go.Proofs.Ytmdhcigkhapolaa
