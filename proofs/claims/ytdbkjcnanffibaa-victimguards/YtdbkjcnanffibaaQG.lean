/-
  Contracts of queue: has, queue.
-/
import Derived.Test.YtdbkjcnanffibaaQD
namespace Go.Proofs.Ytdbkjcnanffibaa
open Go.RowKit Go.Deep Go.Maps Go.Shelf
set_option linter.unusedVariables false

set_option maxHeartbeats 1000000 in
theorem has_any (lb off len cap mb : Nat) (l : List Qu) (id : Int) (w : World) (hT : Tree w lb off len cap mb l) (hi : I64 id) :
    Calls Try.prog 57 #[tv lb off len cap mb, .int .i64 id] w fun e w' => e = .returned (.bool (hasQ l id)) ∧ Below w.heap.size w w' := by
  have hM := hT.map.below ((Below.refl _ w).alloc (Nat.le_refl _) (.cells #[.slice (some ⟨lb, off, none⟩) len cap, .map (some mb)] 73))
  by_cases hp : pl l id < len
  · have L := hM.look_yes hi hp
    have E : Hid (true = hasQ l id) := by unfold Hid hasQ; rw [hT.hlen]; simp [hp]
    clear hM hT
    generalize pl l id = pp at *
    go_enter Try.func57, Try.ntmps57
    go_wp2
    go_ret
    exact ⟨retb E.out, (by repeat (first | exact Below.refl _ _ | assumption | refine Below.alloc ?_ (by simp <;> omega) _ | refine Below.setCell ?_ (by simp <;> omega) _ | refine Below.drew ?_ | refine below_drewN ?_ _))⟩
  · have L := hM.look_no hi hp
    have E : Hid (false = hasQ l id) := by unfold Hid hasQ; rw [hT.hlen]; exact (decide_eq_false hp).symm
    clear hM hT
    go_enter Try.func57, Try.ntmps57
    go_wp2
    go_ret
    exact ⟨retb E.out, (by repeat (first | exact Below.refl _ _ | assumption | refine Below.alloc ?_ (by simp <;> omega) _ | refine Below.setCell ?_ (by simp <;> omega) _ | refine Below.drew ?_ | refine below_drewN ?_ _))⟩

/-- A queue's second field. -/
theorem run_par (a b c d e f g : Int) (w : World) : Sem.run Try.prog (Instr.field 53 (.agg #[.int .i64 a, .int .i64 b, .int .i64 c, .int .i64 d, .int .i64 e, .int .i64 f, .int .i64 g]) 1) w = .ok (.int .i64 b) w := by kernel_rfl

/-- A queue's value. -/
abbrev qv (q : Qu) : Value := .agg #[.int .i64 q.id, .int .i64 q.par, .int .i64 q.wt, .int .i64 q.qc, .int .i64 q.qm, .int .i64 q.mc, .int .i64 q.mm]

set_option maxHeartbeats 1000000 in
theorem queue_any (lb off len cap mb : Nat) (l : List Qu) (id : Int) (w : World) (hT : Tree w lb off len cap mb l) (hi : I64 id) (hp : pl l id < len) :
    Calls Try.prog 60 #[tv lb off len cap mb, .int .i64 id] w fun e w' => e = .returned (qv (qa l (pl l id))) ∧ Below w.heap.size w w' := by
  have hB : Below w.heap.size w ((w.alloc (.cells #[.slice (some ⟨lb, off, none⟩) len cap, .map (some mb)] 73)).alloc (.cells #[.int .i64 0, .int .i64 0, .int .i64 0, .int .i64 0, .int .i64 0, .int .i64 0, .int .i64 0] 53)) := (by repeat (first | exact Below.refl _ _ | assumption | refine Below.alloc ?_ (by simp <;> omega) _ | refine Below.setCell ?_ (by simp <;> omega) _ | refine Below.drew ?_ | refine below_drewN ?_ _))
  have L := (hT.map.below hB).get hi hp
  obtain ⟨c0, c1, c2, c3, c4, c5, c6⟩ := (hT.row.below hB).2 (pl l id) (by rw [hT.hlen]; exact hp)
  have hcap := hT.hcap
  have hle := hT.hle
  clear hT
  generalize pl l id = pp at *
  generalize qa l pp = q at *
  obtain ⟨q1, q2, q3, q4, q5, q6, q7⟩ := q
  simp only at *
  have pb : (pp : Int) < (len : Int) := by omega
  have pa : (0 : Int) ≤ (pp : Int) := by omega
  go_enter Try.func60, Try.ntmps60
  go_wp2
  exact bodyPost_ret (v := qv ⟨q1, q2, q3, q4, q5, q6, q7⟩) (by simp [results, Try.results60, go_sem]) rfl ⟨rfl, (by repeat (first | exact Below.refl _ _ | assumption | refine Below.alloc ?_ (by simp <;> omega) _ | refine Below.setCell ?_ (by simp <;> omega) _ | refine Below.drew ?_ | refine below_drewN ?_ _))⟩

end Go.Proofs.Ytdbkjcnanffibaa
