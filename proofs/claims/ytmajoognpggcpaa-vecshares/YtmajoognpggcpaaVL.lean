/-
  Contracts of furlongref02: Share, DocShare.
-/
import Derived.Test.YtmajoognpggcpaaVK
namespace Go.Proofs.Ytmajoognpggcpaa
open Go.RowKit Go.Shelf
set_option linter.unusedVariables false

theorem above_fc {c m p q : Int} (oc : okp c) (om : okp m) (op : okp p) (oq : okp q) : decide ((shr c p).1 * (shr m q).2 < (shr m q).1 * (shr c p).2) = decide (0 < fc (shr m q) (shr c p)) := by
  unfold okp at oc om op oq
  have key : ((shr c p).1 * (shr m q).2 < (shr m q).1 * (shr c p).2) ↔ 0 < fc (shr m q) (shr c p) := by
    have z : ∀ a b : Int, okp a → okp b → (shr a b = (1, 0) ∨ 0 < (shr a b).2) := fun a b ha hb => by
      unfold shr; split
      · right; assumption
      · split
        · left; rfl
        · right; decide
    unfold fc
    rcases z m q om oq with h | h <;> rcases z c p oc op with k | k
    · rw [h, k]; decide
    · rw [h]; simp only; rw [if_pos (Or.inl trivial)]; unfold ord; repeat' split <;> omega
    · rw [k]; simp only; rw [if_pos (Or.inr trivial)]; unfold ord; repeat' split <;> omega
    · rw [if_neg (by omega)]; unfold ord; repeat' split <;> omega
  by_cases h : 0 < fc (shr m q) (shr c p)
  · rw [decide_eq_true h, decide_eq_true (key.2 h)]
  · rw [decide_eq_false h, decide_eq_false (fun k => h (key.1 k))]

theorem rshare_any (c m p q : Int) (oc : okp c) (om : okp m) (op : okp p) (oq : okp q) (w : World) :
    Calls Try.prog 64 #[.agg #[.int .i64 c, .int .i64 m], .agg #[.int .i64 p, .int .i64 q]] w fun e w' => e = .returned (.agg #[.int .i64 (dom c m p q).1, .int .i64 (dom c m p q).2]) ∧ Below w.heap.size w w' := by
  have f1 := shr_fr oc op
  have f2 := shr_fr om oq
  have AB := fun w => above_any (shr m q).1 (shr m q).2 (shr c p).1 (shr c p).2 f2.1.1 ⟨by have := f2.1.2.1; omega, f2.1.2.2⟩ f1.1.1 ⟨by have := f1.1.2.1; omega, f1.1.2.2⟩ w
  rw [above_fc oc om op oq] at AB
  by_cases h : 0 < fc (shr m q) (shr c p)
  · rw [decide_eq_true h] at AB
    rw [show dom c m p q = shr m q by unfold dom; rw [if_pos h]]
    exact rshare_yes c m p q _ _ _ _ w (hid (fun w => part_x c p w)) (hid (fun w => part_x m q w)) (hid AB)
  · rw [decide_eq_false h] at AB
    rw [show dom c m p q = shr c p by unfold dom; rw [if_neg h]]
    exact rshare_no c m p q _ _ _ _ w (hid (fun w => part_x c p w)) (hid (fun w => part_x m q w)) (hid AB)

set_option maxHeartbeats 4000000 in
theorem docshare_any (c m d k : Int) (w : World) :
    Calls Try.prog 40 #[.agg #[.int .i64 c, .int .i64 m], .agg #[.int .i64 d, .int .i64 k]] w fun e w' =>
      e = .returned (.tuple #[.int .i64 (shv c m d k).1, .int .i64 (shv c m d k).2.1, .int .i64 (shv c m d k).2.2]) ∧ Below w.heap.size w w' := by
  cases hok : [(c, m), (d, k)].all okv
  · have E : Hid (shv c m d k = (0, 0, 1)) := by
      show _ = _; unfold shv; rw [if_neg]; rintro ⟨h1, h2⟩; simp [h1, h2] at hok
    have HK := hid (chks_two_no hok)
    clear hok
    go_enter Try.func40, Try.ntmps40
    go_wp2_with fail
    refine (rcheck_any _ 2 2 [(c, m), (d, k)] _ (row2_two (by simp [go_sem]) (by simp [go_sem]) (by simp [go_sem]) (by simp [go_sem]))).mono ?_
    rintro e w1 ⟨rfl, h1⟩
    have hB1 : Below w.heap.size w w1 := Below.trans (by repeat (first | exact Below.refl _ _ | assumption | refine Below.alloc ?_ (by simp <;> omega) _ | refine Below.setCell ?_ (by simp <;> omega) _ | refine Below.drew ?_ | refine below_drewN ?_ _)) (h1.mono (by simp <;> omega))
    rw [HK.out]
    go_wp2
    rw [E.out]
    go_ret3
    exact ⟨rfl, hB1⟩
  · have hh : okv (c, m) = true ∧ okv (d, k) = true := by simpa using hok
    have E : Hid (shv c m d k = ((dom c m d k).1, (dom c m d k).2, 0)) := by show _ = _; unfold shv; rw [if_pos hh]
    have p1 := okv_true hh.1
    have p2 := okv_true hh.2
    have SH := hid (fun w => rshare_any c m d k p1.1 p1.2 p2.1 p2.2 w)
    have HK := hid (chks_two_ok hok)
    clear hok
    go_enter Try.func40, Try.ntmps40
    go_wp2_with fail
    refine (rcheck_any _ 2 2 [(c, m), (d, k)] _ (row2_two (by simp [go_sem]) (by simp [go_sem]) (by simp [go_sem]) (by simp [go_sem]))).mono ?_
    rintro e w1 ⟨rfl, h1⟩
    have a0 := keepc h1 (a := ⟨w.heap.size, 0, none⟩) (v := .int .i64 c) (by simp [go_sem])
    have a1 := keepc h1 (a := ⟨w.heap.size, 1, none⟩) (v := .int .i64 m) (by simp [go_sem])
    have b0 := keepc h1 (a := ⟨w.heap.size + 1, 0, none⟩) (v := .int .i64 d) (by simp [go_sem])
    have b1 := keepc h1 (a := ⟨w.heap.size + 1, 1, none⟩) (v := .int .i64 k) (by simp [go_sem])
    have hB1 : Below w.heap.size w w1 := Below.trans (by repeat (first | exact Below.refl _ _ | assumption | refine Below.alloc ?_ (by simp <;> omega) _ | refine Below.setCell ?_ (by simp <;> omega) _ | refine Below.drew ?_ | refine below_drewN ?_ _)) (h1.mono (by simp <;> omega))
    rw [HK.out]
    go_wp2_with fail
    refine (SH.out _).mono ?_
    rintro e w2 ⟨rfl, h2⟩
    have hB2 := hB1.trans (h2.mono hB1.size)
    clear a0 a1 b0 b1
    go_wp2_with fail
    go_quiet (fail)
    go_wp2
    rw [E.out]
    go_ret3
    exact ⟨rfl, below_drewN (hB2.alloc hB2.size _) _⟩

end Go.Proofs.Ytmajoognpggcpaa
