/-
  Contracts of the library at lists of queues: the binary search.
-/
import Derived.Test.YtikalkigmnipiaaQG
namespace Go.Proofs.Ytikalkigmnipiaa
open Go.RowKit Go.Deep Go.Maps
set_option linter.unusedVariables false

def cmpI (x y : Int) : Int := if x < y then -1 else if y < x then 1 else 0

set_option maxHeartbeats 1000000 in
theorem isNaN_any (x : Int) (w : World) : Calls Try.prog 83 #[.int .i64 x] w fun e w' => e = .returned (.bool false) ∧ w = w' := by
  have t : (x != x) = false := by simp
  go_enter Try.func83, Try.ntmps83
  go_wp2
  go_ret
  exact ⟨rfl, rfl⟩

set_option maxHeartbeats 1000000 in
theorem compare_any (x y : Int) (w : World) : Calls Try.prog 66 #[.int .i64 x, .int .i64 y] w fun e w' => e = .returned (.int .i64 (cmpI x y)) ∧ w = w' := by
  by_cases h1 : x < y
  · have t1 : decide (x < y) = true := by simp; omega
    have E : Hid (-1 = cmpI x y) := by unfold Hid cmpI; rw [if_pos h1]
    go_enter Try.func66, Try.ntmps66
    go_wp2_with fail
    refine (isNaN_any x _).mono ?_
    rintro e w1 ⟨rfl, rfl⟩
    go_wp2_with fail
    refine (isNaN_any y _).mono ?_
    rintro e w1 ⟨rfl, rfl⟩
    go_wp2
    go_ret
    exact ⟨ret1 E.out, rfl⟩
  · have t1 : decide (x < y) = false := by simp; omega
    by_cases h2 : y < x
    · have t2 : decide (y < x) = true := by simp; omega
      have E : Hid (1 = cmpI x y) := by unfold Hid cmpI; rw [if_neg h1, if_pos h2]
      go_enter Try.func66, Try.ntmps66
      go_wp2_with fail
      refine (isNaN_any x _).mono ?_
      rintro e w1 ⟨rfl, rfl⟩
      go_wp2_with fail
      refine (isNaN_any y _).mono ?_
      rintro e w1 ⟨rfl, rfl⟩
      go_wp2
      go_ret
      exact ⟨ret1 E.out, rfl⟩
    · have t2 : decide (y < x) = false := by simp; omega
      have E : Hid (0 = cmpI x y) := by unfold Hid cmpI; rw [if_neg h1, if_neg h2]
      go_enter Try.func66, Try.ntmps66
      go_wp2_with fail
      refine (isNaN_any x _).mono ?_
      rintro e w1 ⟨rfl, rfl⟩
      go_wp2_with fail
      refine (isNaN_any y _).mono ?_
      rintro e w1 ⟨rfl, rfl⟩
      go_wp2
      go_ret
      exact ⟨ret1 E.out, rfl⟩

/-- Where a queue with an Id stands, or would stand. -/
def sp (l : List Qu) (id : Int) : Nat := l.findIdx (fun q => decide (id ≤ q.id))
theorem sp_le (l : List Qu) (id : Int) : sp l id ≤ l.length := List.findIdx_le_length
theorem sp_lt {l : List Qu} {id : Int} {i : Nat} (h : i < sp l id) : (qa l i).id < id := by
  have hl := sp_le l id
  rw [qa_eq (by omega)]
  have := List.not_of_lt_findIdx h
  simpa using this
theorem sp_eq {l : List Qu} {id : Int} {k : Nat} (hk : k ≤ l.length) (h1 : ∀ i, i < k → (qa l i).id < id) (h2 : k < l.length → id ≤ (qa l k).id) : sp l id = k := by
  rcases Nat.lt_trichotomy (sp l id) k with h | h | h
  · have h3 := h1 _ h
    have h4 : sp l id < l.length := by omega
    have := List.findIdx_getElem (w := h4)
    rw [qa_eq h4] at h3
    unfold sp at h3
    simp at this
    omega
  · exact h
  · have h3 := sp_lt h
    have := h2 (by have := sp_le l id; omega)
    omega

end Go.Proofs.Ytikalkigmnipiaa
