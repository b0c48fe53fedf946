/-
  Law08's victims: is all that is handed in of the form?
-/
import Derived.Test.YtdbkjcnanffibaaUT
namespace Go.Proofs.Ytdbkjcnanffibaa
open Go.RowKit Go.Deep Go.Maps Go.Shelf
set_option linter.unusedVariables false
set_option linter.unusedSimpArgs false

set_option maxRecDepth 100000 in
set_option maxHeartbeats 2000000 in
theorem victims_any (a : Option Addr) (len cap : Nat) (l : List Qu) (b : Option Addr) (ln cp : Nat) (ls : List Le) (p1 p2 : Int) (w : World) (h : HoldsQ w a len cap l) (hok : ∀ q ∈ l, q.ok) (hl : HoldsL w b ln cp ls) (hlo : ∀ x ∈ ls, x.okB) (hn : ln * 24 ≤ 140737488355328) :
    Calls Try.prog 15 #[.slice a len cap, .slice b ln cp, .agg #[.int .i64 p1, .int .i64 p2]] w fun e w' => e = .returned (.bool (vicB l ls p1 p2)) ∧ Below w.heap.size w w' := by
  have B0 := hid ((Below.refl w.heap.size w).alloc (Nat.le_refl _) (.cells #[.int .i64 p1, .int .i64 p2] 32))
  have z0 : (w.alloc (.cells #[.int .i64 p1, .int .i64 p2] 32)).cell? ⟨w.heap.size, 0, none⟩ = some (.int .i64 p1) := by simp [go_sem]
  have z1 : (w.alloc (.cells #[.int .i64 p1, .int .i64 p2] 32)).cell? ⟨w.heap.size, 1, none⟩ = some (.int .i64 p2) := by simp [go_sem]
  have US := hid (fun W (hW : Below w.heap.size w W) => uuses_any b ln cp ls W (hl.below hW) hlo hn)
  have SU := hid (fun ub n uc W (hW : Below w.heap.size w W) (hu : HoldsU W ub n uc (uvL ls)) => qsums_any a len cap l ub n uc (uvL ls) W (h.below hW) hok hu (uvL_q hlo))
  have CK := hid (fun W => check_any p1 p2 W)
  have HLO := hid hlo
  clear h hok hl hlo
  have VB : Hid (vicB l ls p1 p2 = (decide (useErr ls = 0) && (decide (sumsE l (uvL ls) = 0) && okv (p1, p2)))) := rfl
  have CO : Hid (okv (p1, p2) = (chk p1 p2 == 0)) := by
    unfold Hid
    cases e : okv (p1, p2) with
    | true => rw [chk_ok e]; rfl
    | false => rw [chk_no e]; rfl
  rw [CO.out] at VB
  generalize hu : useErr ls = UE at *
  generalize hs : sumsE l (uvL ls) = SE at *
  generalize hc : chk p1 p2 = CE at *
  have HU := hid hu
  clear hu hs hc CO
  go_enter Try.func15, Try.ntmps15
  go_wp2_with fail
  refine (US.out _ B0.out).mono ?_
  rintro e w1 ⟨v1, rfl, o1, b1⟩
  rw [← HU.out] at o1
  have O1 := o1.isU HLO.out
  obtain ⟨ua_, uc_, rfl⟩ := O1.form
  have H1 := O1.holds Us.cs_len
  have B1 := hid (B0.out.trans (b1.mono B0.out.size))
  replace z0 := keepc b1 z0
  replace z1 := keepc b1 z1
  have S1 := hid (SU.out _ _ _ _ B1.out H1)
  clear o1 O1 H1 b1 US SU
  go_wp2_with fail
  refine S1.out.mono ?_
  rintro e w2 ⟨v2, rfl, o2, b2⟩
  have B2 := hid (B1.out.trans (b2.mono B1.out.size))
  replace z0 := keepc b2 z0
  replace z1 := keepc b2 z1
  clear o2 b2 S1
  by_cases e1 : UE = 0
  · subst e1
    by_cases e2 : SE = 0
    · subst e2
      go_wp2_with fail
      refine (CK.out _).mono ?_
      rintro e w3 ⟨rfl, b3⟩
      have B3 := hid (B2.out.trans (b3.mono B2.out.size))
      go_wp2_with fail
      go_ret
      exact ⟨by rw [VB.out]; simp, B3.out⟩
    · have t : (SE == 0) = false := by simpa using e2
      have V2 : Hid (vicB l ls p1 p2 = false) := by unfold Hid; rw [VB.out]; simp [e2]
      clear VB
      go_wp2_with fail
      go_ret
      exact ⟨ret_b V2.out, B2.out⟩
  · have t : (UE == 0) = false := by simpa using e1
    have V2 : Hid (vicB l ls p1 p2 = false) := by unfold Hid; rw [VB.out]; simp [e1]
    clear VB
    go_wp2_with fail
    go_ret
    exact ⟨ret_b V2.out, B2.out⟩
end Go.Proofs.Ytdbkjcnanffibaa
