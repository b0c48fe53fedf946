/-
  Shares stand in one order: fc, lev.
-/
import Derived.Test.YtdbkjcnanffibaaVG
namespace Go.Proofs.Ytdbkjcnanffibaa
open Go.RowKit
set_option linter.unusedVariables false

theorem fc_bd (f g : Int × Int) : -1 ≤ fc f g ∧ fc f g ≤ 1 := by
  have o : ∀ a b : Int, -1 ≤ ord a b ∧ ord a b ≤ 1 := fun a b => by unfold ord; repeat' split <;> omega
  unfold fc; split <;> exact o _ _
theorem ord_turn (p q : Int) : ord q p = -ord p q := by unfold ord; repeat' split <;> omega
theorem fc_turn (f g : Int × Int) : fc g f = -fc f g := by
  unfold fc
  by_cases h : f.2 = 0 ∨ g.2 = 0
  · rw [if_pos h, if_pos h.symm, ord_turn]
  · rw [if_neg h, if_neg (fun k => h k.symm), ord_turn]
/-- Is one share not above another one? -/
def Lsh (f g : Int × Int) : Prop := g.2 = 0 ∨ (0 < f.2 ∧ 0 < g.2 ∧ f.1 * g.2 ≤ g.1 * f.2)
theorem fc_le {f g : Int × Int} (hf : 0 ≤ f.2) (hg : 0 ≤ g.2) : fc f g ≤ 0 ↔ Lsh f g := by
  unfold fc Lsh
  by_cases h : f.2 = 0 ∨ g.2 = 0
  · rw [if_pos h]; unfold ord
    repeat' split <;> omega
  · rw [if_neg h]; unfold ord
    have h1 : 0 < f.2 ∧ 0 < g.2 ∧ g.2 ≠ 0 := by omega
    split
    · exact ⟨fun _ => Or.inr ⟨h1.1, h1.2.1, by omega⟩, fun _ => by omega⟩
    · split
      · refine ⟨fun k => by omega, fun k => ?_⟩
        rcases k with k | ⟨_, _, k⟩
        · exact absurd k h1.2.2
        · omega
      · exact ⟨fun _ => Or.inr ⟨h1.1, h1.2.1, by omega⟩, fun _ => by omega⟩
theorem le_trans' {f g h : Int × Int} (hf : 0 ≤ f.2) (hg : 0 ≤ g.2) (hh : 0 ≤ h.2) (h1 : Lsh f g) (h2 : Lsh g h) : Lsh f h := by
  unfold Lsh at *
  rcases h2 with k | ⟨g0, h0, k⟩
  · exact Or.inl k
  rcases h1 with j | ⟨f0, g0, j⟩
  · omega
  refine Or.inr ⟨f0, h0, ?_⟩
  have e1 : f.1 * h.2 * g.2 = f.1 * g.2 * h.2 := by rw [Int.mul_right_comm]
  have e2 : g.1 * f.2 * h.2 = g.1 * h.2 * f.2 := by rw [Int.mul_right_comm]
  have e3 : h.1 * g.2 * f.2 = h.1 * f.2 * g.2 := by rw [Int.mul_right_comm]
  have g1 := Int.mul_le_mul_of_nonneg_right j (show 0 ≤ h.2 by omega)
  have g2 := Int.mul_le_mul_of_nonneg_right k (show 0 ≤ f.2 by omega)
  exact Int.le_of_mul_le_mul_right (show f.1 * h.2 * g.2 ≤ h.1 * f.2 * g.2 by omega) g0
theorem le_total {f g : Int × Int} (hf : 0 ≤ f.2) (hg : 0 ≤ g.2) (h : ¬ Lsh f g) : Lsh g f := by
  rw [← fc_le hf hg] at h
  rw [← fc_le hg hf, fc_turn f g]
  omega
theorem le_refl' (f : Int × Int) (hf : 0 ≤ f.2) : Lsh f f := by
  unfold Lsh; by_cases h : f.2 = 0
  · exact Or.inl h
  · exact Or.inr ⟨by omega, by omega, Int.le_refl _⟩
theorem shr_le {a b p : Int} (ha : okp a) (hb : okp b) (hp : okp p) : Lsh (shr a p) (shr (a + b) p) := by
  unfold okp at ha hb hp
  unfold Lsh shr
  by_cases h : 0 < p
  · rw [if_pos h, if_pos h]
    exact Or.inr ⟨h, h, Int.mul_le_mul_of_nonneg_right (by simp only; omega) (by simp only; omega)⟩
  · rw [if_neg h, if_neg h]
    by_cases k : 0 < a
    · rw [if_pos k, if_pos (by omega)]; exact Or.inl rfl
    · rw [if_neg k]
      by_cases l : 0 < a + b
      · rw [if_pos l]; exact Or.inl rfl
      · rw [if_neg l]; exact Or.inr ⟨by decide, by decide, by decide⟩
theorem dom_ge {c m p q : Int} (oc : okp c) (om : okp m) (op : okp p) (oq : okp q) : Lsh (shr c p) (dom c m p q) ∧ Lsh (shr m q) (dom c m p q) := by
  have f1 := (shr_fr om oq).1.2.1
  have f2 := (shr_fr oc op).1.2.1
  unfold dom
  split
  · rename_i h
    refine ⟨le_total f1 f2 ?_, le_refl' _ f1⟩
    rw [← fc_le f1 f2]; omega
  · rename_i h
    exact ⟨le_refl' _ f2, (fc_le f1 f2).1 (by omega)⟩
theorem dom_le {a0 a1 b0 b1 p q : Int} (h0 : okp a0) (h1 : okp a1) (k0 : okp b0) (k1 : okp b1) (op : okp p) (oq : okp q) (s0 : okp (a0 + b0)) (s1 : okp (a1 + b1)) :
    Lsh (dom a0 a1 p q) (dom (a0 + b0) (a1 + b1) p q) := by
  have g := dom_ge s0 s1 op oq
  have d := (dom_fr ⟨s0, op⟩ ⟨s1, oq⟩).1.2.1
  have e1 := shr_le h0 k0 op
  have e2 := shr_le h1 k1 oq
  have z1 := (shr_fr h0 op).1.2.1
  have z2 := (shr_fr h1 oq).1.2.1
  have z3 := (shr_fr s0 op).1.2.1
  have z4 := (shr_fr s1 oq).1.2.1
  rw [dom]
  split
  · exact le_trans' z2 z4 d e2 g.2
  · exact le_trans' z1 z3 d e1 g.1
/-- By the same weight. -/
theorem le_scale {f g : Int × Int} {x : Int} (hx : 1 ≤ x) (h : Lsh f g) : Lsh (f.1, f.2 * x) (g.1, g.2 * x) := by
  unfold Lsh at *
  simp only
  rcases h with h | ⟨f0, g0, h⟩
  · left; rw [h, Int.zero_mul]
  · refine Or.inr ⟨Int.mul_pos f0 (by omega), Int.mul_pos g0 (by omega), ?_⟩
    rw [← Int.mul_assoc, ← Int.mul_assoc]
    exact Int.mul_le_mul_of_nonneg_right h (by omega)

theorem leok_swap (a b c d e f p q : Int) : leok d e f a b c p q = leok a b c d e f p q := by
  unfold leok
  simp only [List.all_cons, List.all_nil]
  cases okv (a, b) <;> cases okv (d, e) <;> cases okv (p, q) <;> cases okw c <;> cases okw f <;> rfl
theorem leok_out {c m x d k y p q : Int} (h : leok c m x d k y p q = true) : okv (c, m) = true ∧ okv (d, k) = true ∧ okv (p, q) = true ∧ (1 ≤ x ∧ x ≤ 1048576) ∧ (1 ≤ y ∧ y ≤ 1048576) := by
  unfold leok at h
  simp only [List.all_cons, List.all_nil, Bool.and_true, Bool.and_eq_true] at h
  obtain ⟨⟨h1, h2, h3⟩, h4, h5⟩ := h
  exact ⟨h1, h2, h3, by simpa [okw] using h4, by simpa [okw] using h5⟩
theorem less_all (c m x d k y p q : Int) : ∃ X G, ∀ w : World, Calls Try.prog 55 #[.agg #[.int .i64 c, .int .i64 m], .int .i64 x, .agg #[.int .i64 d, .int .i64 k], .int .i64 y, .agg #[.int .i64 p, .int .i64 q]] w fun e w' =>
      e = .returned (.tuple #[.int .i64 X, .int .i64 G]) ∧ Below w.heap.size w w' := by
  cases h : leok c m x d k y p q
  · exact ⟨0, 1, fun w => less_no c m x d k y p q h w⟩
  · exact ⟨_, 0, fun w => less_yes c m x d k y p q h w⟩
theorem lev_nn {c m p q x : Int} (h0 : okp c) (h1 : okp m) (op : okp p) (oq : okp q) (hx : 1 ≤ x) : 0 ≤ (dom c m p q).2 * x :=
  Int.mul_nonneg (dom_fr ⟨h0, op⟩ ⟨h1, oq⟩).1.2.1 (by omega)
/-- Is an amount, by its weight, one that a share is told of? -/
def sok (p q : Int) (a : Int × Int) (x : Int) : Prop := okv a = true ∧ 1 ≤ x ∧ okv (p, q) = true
theorem okv_pair {a b : Int} (h : okv (a, b) = true) : okp a ∧ okp b := okv_true h
theorem lev_turn (c m x d k y p q : Int) : lev d k y c m x p q = -lev c m x d k y p q := fc_turn _ _
theorem lev_bd (c m x d k y p q : Int) : -1 ≤ lev c m x d k y p q ∧ lev c m x d k y p q ≤ 1 := fc_bd _ _
theorem lev_nn' {c m p q x : Int} (h : sok p q (c, m) x) : 0 ≤ (dom c m p q).2 * x := by
  obtain ⟨h1, h2, h3⟩ := h
  exact lev_nn (okv_pair h1).1 (okv_pair h1).2 (okv_pair h3).1 (okv_pair h3).2 h2
theorem lev_trans {c m x d k y a b z p q : Int} (h1 : sok p q (c, m) x) (h2 : sok p q (d, k) y) (h3 : sok p q (a, b) z) (g1 : lev c m x d k y p q ≤ 0) (g2 : lev d k y a b z p q ≤ 0) : lev c m x a b z p q ≤ 0 :=
  (fc_le (lev_nn' h1) (lev_nn' h3)).2 (le_trans' (lev_nn' h1) (lev_nn' h2) (lev_nn' h3) ((fc_le (lev_nn' h1) (lev_nn' h2)).1 g1) ((fc_le (lev_nn' h2) (lev_nn' h3)).1 g2))
/-- More, by the same weight, is no less. -/
theorem lev_more {c m d k x p q : Int} (h1 : sok p q (c, m) x) (h2 : okv (d, k) = true) (h3 : okv (c + d, m + k) = true) : lev c m x (c + d) (m + k) x p q ≤ 0 := by
  obtain ⟨o1, o2, o3⟩ := h1
  have s2 : sok p q (c + d, m + k) x := ⟨h3, o2, o3⟩
  exact (fc_le (lev_nn' ⟨o1, o2, o3⟩) (lev_nn' s2)).2 (le_scale o2 (dom_le (okv_pair o1).1 (okv_pair o1).2 (okv_pair h2).1 (okv_pair h2).2 (okv_pair o3).1 (okv_pair o3).2 (okv_pair h3).1 (okv_pair h3).2))
end Go.Proofs.Ytdbkjcnanffibaa
