/-
  Contracts of the library at lists of queues: the binary search.
-/
import Derived.Test.YtdomimpcjkajiaaQG
namespace Go.Proofs.Ytdomimpcjkajiaa
open Go.RowKit Go.Deep Go.Maps
set_option linter.unusedVariables false

def cmpI (x y : Int) : Int := if x < y then -1 else if y < x then 1 else 0

set_option maxHeartbeats 1000000 in
theorem isNaN_any (x : Int) (w : World) : Calls Try.prog 97 #[.int .i64 x] w fun e w' => e = .returned (.bool false) ∧ w = w' := by
  have t : (x != x) = false := by simp
  go_enter Try.func97, Try.ntmps97
  go_wp2
  go_ret
  exact ⟨rfl, rfl⟩

set_option maxHeartbeats 1000000 in
theorem compare_any (x y : Int) (w : World) : Calls Try.prog 70 #[.int .i64 x, .int .i64 y] w fun e w' => e = .returned (.int .i64 (cmpI x y)) ∧ w = w' := by
  by_cases h1 : x < y
  · have t1 : decide (x < y) = true := by simp; omega
    have E : Hid (-1 = cmpI x y) := by unfold Hid cmpI; rw [if_pos h1]
    go_enter Try.func70, Try.ntmps70
    go_wp2_with fail
    refine (isNaN_any x _).mono ?_
    rintro e w1 ⟨rfl, rfl⟩
    go_wp2_with fail
    refine (isNaN_any y _).mono ?_
    rintro e w1 ⟨rfl, rfl⟩
    go_wp2
    go_ret
    exact ⟨ret1 E.out, rfl⟩
  · have t1 : decide (x < y) = false := by simp; omega
    by_cases h2 : y < x
    · have t2 : decide (y < x) = true := by simp; omega
      have E : Hid (1 = cmpI x y) := by unfold Hid cmpI; rw [if_neg h1, if_pos h2]
      go_enter Try.func70, Try.ntmps70
      go_wp2_with fail
      refine (isNaN_any x _).mono ?_
      rintro e w1 ⟨rfl, rfl⟩
      go_wp2_with fail
      refine (isNaN_any y _).mono ?_
      rintro e w1 ⟨rfl, rfl⟩
      go_wp2
      go_ret
      exact ⟨ret1 E.out, rfl⟩
    · have t2 : decide (y < x) = false := by simp; omega
      have E : Hid (0 = cmpI x y) := by unfold Hid cmpI; rw [if_neg h1, if_neg h2]
      go_enter Try.func70, Try.ntmps70
      go_wp2_with fail
      refine (isNaN_any x _).mono ?_
      rintro e w1 ⟨rfl, rfl⟩
      go_wp2_with fail
      refine (isNaN_any y _).mono ?_
      rintro e w1 ⟨rfl, rfl⟩
      go_wp2
      go_ret
      exact ⟨ret1 E.out, rfl⟩

set_option maxHeartbeats 1000000 in
theorem add1_any (q : Qu) (id : Int) (w : World) : Calls Try.prog 69 #[qv q, .int .i64 id] w fun e w' => e = .returned (.int .i64 (cmpI q.id id)) ∧ Below w.heap.size w w' := by
  obtain ⟨q1, q2, q3, q4, q5, q6, q7⟩ := q
  go_enter Try.func69, Try.ntmps69
  go_wp2_with fail
  refine (compare_any _ _ _).mono ?_
  rintro e w1 ⟨rfl, rfl⟩
  go_wp2
  go_ret
  exact ⟨rfl, (by repeat (first | exact Below.refl _ _ | assumption | refine Below.alloc ?_ (by simp <;> omega) _ | refine Below.setCell ?_ (by simp <;> omega) _ | refine Below.drew ?_ | refine below_drewN ?_ _))⟩

/-- Where a queue with an Id stands, or would stand. -/
def sp (l : List Qu) (id : Int) : Nat := l.findIdx (fun q => decide (id ≤ q.id))
theorem sp_le (l : List Qu) (id : Int) : sp l id ≤ l.length := List.findIdx_le_length
theorem sp_lt {l : List Qu} {id : Int} {i : Nat} (h : i < sp l id) : (qa l i).id < id := by
  have hl := sp_le l id
  rw [qa_eq (by omega)]
  have := List.not_of_lt_findIdx h
  simpa using this
theorem sp_eq {l : List Qu} {id : Int} {k : Nat} (hk : k ≤ l.length) (h1 : ∀ i, i < k → (qa l i).id < id) (h2 : k < l.length → id ≤ (qa l k).id) : sp l id = k := by
  rcases Nat.lt_trichotomy (sp l id) k with h | h | h
  · have h3 := h1 _ h
    have h4 : sp l id < l.length := by omega
    have := List.findIdx_getElem (w := h4)
    rw [qa_eq h4] at h3
    unfold sp at h3
    simp at this
    omega
  · exact h
  · have h3 := sp_lt h
    have := h2 (by have := sp_le l id; omega)
    omega

set_option maxRecDepth 100000 in
set_option maxHeartbeats 2000000 in
theorem search_any (b off len cap : Nat) (l : List Qu) (id : Int) (w : World) (hR : RowQ w b off l) (hl : l.length = len) (hle : len ≤ 64) (hcap : len ≤ cap) (hF : Form l) :
    Calls Try.prog 68 #[.slice (some ⟨b, off, none⟩) len cap, .int .i64 id, .func (.func 69) #[] #[]] w fun e w' => ∃ c : Bool, e = .returned (.tuple #[.int .i64 (sp l id : Int), .bool c]) ∧ Below w.heap.size w w' := by
  have HR := hid hR
  have HL := hid hl
  have HF := hid hF
  clear hR hl hF
  go_enter Try.func68, Try.ntmps68
  go_wp2_with fail
  go_loopw [9, 10] (fun u v wr => ∃ i j : Nat, i ≤ j ∧ j ≤ len ∧ u = .int .i64 i ∧ v = .int .i64 j ∧ Hid (∀ k, k < i → (qa l k).id < id) ∧ Hid (∀ k, j ≤ k → k < len → id ≤ (qa l k).id) ∧ Below w.heap.size w wr) (fun u v _ => (intOf v).toNat - (intOf u).toNat)
  case atStart => exact ⟨0, len, by omega, by omega, rfl, rfl, fun k hk => by omega, fun k h1 h2 => by omega, Below.refl _ _⟩
  case round =>
    obtain ⟨i, j, hij, hj, rfl, rfl, h1, h2, hB⟩ := hrel
    by_cases hlt : i < j
    · have m1 : i ≤ (i + j) / 2 := by omega
      have m2 : (i + j) / 2 < j := by omega
      have ml : (i + j) / 2 < l.length := by rw [HL.out]; omega
      obtain ⟨c0, c1, c2, c3, c4, c5, c6⟩ := (HR.out.below hB).2 ((i + j) / 2) ml
      by_cases hc : (qa l ((i + j) / 2)).id < id
      · have t : decide (cmpI (qa l ((i + j) / 2)).id id < 0) = true := by unfold cmpI; rw [if_pos hc]; decide
        have N1 : Hid (∀ k, k < (i + j) / 2 + 1 → (qa l k).id < id) := fun k hk => by
          rcases Nat.lt_or_ge k ((i + j) / 2) with h | h
          · have := HF.out.rise h ml; omega
          · obtain rfl : k = (i + j) / 2 := by omega
            exact hc
        clear hc ml h1
        generalize qa l ((i + j) / 2) = q at *
        obtain ⟨q1, q2, q3, q4, q5, q6, q7⟩ := q
        simp only at *
        go_wp2_with fail
        refine (add1_any ⟨q1, q2, q3, q4, q5, q6, q7⟩ id _).mono ?_
        rintro e w1 ⟨rfl, hb1⟩
        have hB1 := hB.trans (hb1.mono hB.size)
        simp only
        go_wp2
        go_roundw
        case rel => exact ⟨(i + j) / 2 + 1, j, by omega, hj, by congr 1, rfl, N1, h2, hB1⟩
        case measure => simp [intOf]; omega
      · have t : decide (cmpI (qa l ((i + j) / 2)).id id < 0) = false := by unfold cmpI; rw [if_neg hc]; split <;> decide
        have N1 : Hid (∀ k, (i + j) / 2 ≤ k → k < len → id ≤ (qa l k).id) := fun k hk hk2 => by
          rcases Nat.lt_or_ge ((i + j) / 2) k with h | h
          · have := HF.out.rise h (by rw [HL.out]; exact hk2); omega
          · obtain rfl : k = (i + j) / 2 := by omega
            omega
        clear hc ml h2
        generalize qa l ((i + j) / 2) = q at *
        obtain ⟨q1, q2, q3, q4, q5, q6, q7⟩ := q
        simp only at *
        go_wp2_with fail
        refine (add1_any ⟨q1, q2, q3, q4, q5, q6, q7⟩ id _).mono ?_
        rintro e w1 ⟨rfl, hb1⟩
        have hB1 := hB.trans (hb1.mono hB.size)
        simp only
        go_wp2
        go_roundw
        case rel => exact ⟨i, (i + j) / 2, by omega, by omega, rfl, by congr 1, h1, N1, hB1⟩
        case measure => simp [intOf]; omega
    · obtain rfl : i = j := by omega
      have E := hid (sp_eq (l := l) (id := id) (k := i) (by rw [HL.out]; exact hj) h1.out (fun h => h2.out i (Nat.le_refl _) (by rw [HL.out] at h; exact h)))
      clear h1 h2
      by_cases hn : i < len
      · obtain ⟨c0, c1, c2, c3, c4, c5, c6⟩ := (HR.out.below hB).2 i (by rw [HL.out]; exact hn)
        generalize qa l i = q at *
        obtain ⟨q1, q2, q3, q4, q5, q6, q7⟩ := q
        simp only at *
        go_wp2_with fail
        refine (add1_any ⟨q1, q2, q3, q4, q5, q6, q7⟩ id _).mono ?_
        rintro e w1 ⟨rfl, hb1⟩
        have hB1 := hB.trans (hb1.mono hB.size)
        go_wp2
        go_ret2
        rw [E.out]
        exact ⟨_, rfl, hB1⟩
      · go_wp2
        go_ret2
        rw [E.out]
        exact ⟨_, rfl, hB⟩

end Go.Proofs.Ytdomimpcjkajiaa
