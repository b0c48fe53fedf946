/-
  Contracts of vec: lists of amounts, of weights; the document's checks.
-/
import Derived.Test.YtdbkjcnanffibaaVB
namespace Go.Proofs.Ytdbkjcnanffibaa
open Go.RowKit Go.Shelf
set_option linter.unusedVariables false

def okv (v : Int × Int) : Bool := decide (okp v.1 ∧ okp v.2)

set_option maxHeartbeats 1000000 in
theorem good_any (c m : Int) (w : World) :
    Calls Try.prog 24 #[.agg #[.int .i64 c, .int .i64 m]] w fun e w' => e = .returned (.bool (okv (c, m))) ∧ Below w.heap.size w w' := by
  by_cases h1 : 0 ≤ c
  · have t1 : decide (0 ≤ c) = true := by simp; omega
    by_cases h2 : c ≤ 1099511627776
    · have t2 : decide (c ≤ 1099511627776) = true := by simp; omega
      by_cases h3 : 0 ≤ m
      · have t3 : decide (0 ≤ m) = true := by simp; omega
        have E : Hid (decide (m ≤ 1099511627776) = okv (c, m)) := by simp [Hid, okv, okp, h1, h2, h3]
        go_enter Try.func24, Try.ntmps24
        go_wp2
        go_ret
        exact ⟨retb E.out, (by repeat (first | exact Below.refl _ _ | assumption | refine Below.alloc ?_ (by simp <;> omega) _ | refine Below.setCell ?_ (by simp <;> omega) _ | refine Below.drew ?_ | refine below_drewN ?_ _))⟩
      · have t3 : decide (0 ≤ m) = false := by simp; omega
        have E : Hid (false = okv (c, m)) := by simp [Hid, okv, okp, h3]
        go_enter Try.func24, Try.ntmps24
        go_wp2
        go_ret
        exact ⟨retb E.out, (by repeat (first | exact Below.refl _ _ | assumption | refine Below.alloc ?_ (by simp <;> omega) _ | refine Below.setCell ?_ (by simp <;> omega) _ | refine Below.drew ?_ | refine below_drewN ?_ _))⟩
    · have t2 : decide (c ≤ 1099511627776) = false := by simp; omega
      have E : Hid (false = okv (c, m)) := by simp [Hid, okv, okp, h2]
      go_enter Try.func24, Try.ntmps24
      go_wp2
      go_ret
      exact ⟨retb E.out, (by repeat (first | exact Below.refl _ _ | assumption | refine Below.alloc ?_ (by simp <;> omega) _ | refine Below.setCell ?_ (by simp <;> omega) _ | refine Below.drew ?_ | refine below_drewN ?_ _))⟩
  · have t1 : decide (0 ≤ c) = false := by simp; omega
    have E : Hid (false = okv (c, m)) := by simp [Hid, okv, okp, h1]
    go_enter Try.func24, Try.ntmps24
    go_wp2
    go_ret
    exact ⟨retb E.out, (by repeat (first | exact Below.refl _ _ | assumption | refine Below.alloc ?_ (by simp <;> omega) _ | refine Below.setCell ?_ (by simp <;> omega) _ | refine Below.drew ?_ | refine below_drewN ?_ _))⟩

/-- A row of amounts. -/
def Row2 (w : World) (B len : Nat) (vs : List (Int × Int)) : Prop :=
  vs.length = len ∧ len ≤ 1000 ∧ ∀ j, j < len → w.cell? ⟨B, j * 2, none⟩ = some (.int .i64 (vs[j]?.getD (0, 0)).1) ∧ w.cell? ⟨B, j * 2 + 1, none⟩ = some (.int .i64 (vs[j]?.getD (0, 0)).2)
theorem Row2.below {w w' : World} {B len : Nat} {vs : List (Int × Int)} (h : Row2 w B len vs) (hb : Below w.heap.size w w') : Row2 w' B len vs :=
  ⟨h.1, h.2.1, fun j hj => ⟨keepc hb (h.2.2 j hj).1, keepc hb (h.2.2 j hj).2⟩⟩

theorem all_yes {vs : List (Int × Int)} {k : Nat} {v : Int × Int} (hk : k < vs.length) (h : (vs.take k).all okv = true) (hv : vs[k]?.getD (0, 0) = v) (ho : okv v = true) : (vs.take (k + 1)).all okv = true := by
  rw [List.take_succ_eq_append_getElem hk, List.all_append, h]
  rw [List.getElem?_eq_getElem hk] at hv
  simp at hv
  simp [hv, ho]
theorem all_no {vs : List (Int × Int)} {k : Nat} {v : Int × Int} (hk : k < vs.length) (hv : vs[k]?.getD (0, 0) = v) (ho : okv v = false) : vs.all okv = false := by
  rw [List.getElem?_eq_getElem hk] at hv
  simp at hv
  apply List.all_eq_false.2
  exact ⟨v, hv ▸ List.getElem_mem _, by simp [ho]⟩

set_option maxHeartbeats 2000000 in
theorem amounts_any (B len cap : Nat) (vs : List (Int × Int)) (w : World) (hR : Row2 w B len vs) :
    Calls Try.prog 48 #[.slice (some ⟨B, 0, none⟩) len cap] w fun e w' => e = .returned (.bool (vs.all okv)) ∧ Below w.heap.size w w' := by
  obtain ⟨hl, hm, hc⟩ := hR
  have HC := hid hc
  have HL := hid hl
  clear hc hl
  go_enter Try.func48, Try.ntmps48
  go_wp2_with fail
  go_loopw [7] (fun i wr => ∃ k : Nat, k ≤ len ∧ i = .int .i64 k ∧ Hid ((vs.take k).all okv = true) ∧ Below w.heap.size w wr) (fun i _ => len - (intOf i).toNat)
  case atStart => exact ⟨0, by omega, rfl, rfl, Below.refl _ _⟩
  case round =>
    obtain ⟨k, hk, rfl, ha, hB⟩ := hrel
    by_cases hlt : k < len
    · have h1 := (hB.cell (p := ⟨B, k * 2, none⟩) (cell_lt (HC.out k hlt).1)).trans (HC.out k hlt).1
      have h2 := (hB.cell (p := ⟨B, k * 2 + 1, none⟩) (cell_lt (HC.out k hlt).2)).trans (HC.out k hlt).2
      generalize hv : vs[k]?.getD (0, 0) = v at h1 h2
      obtain ⟨c, m⟩ := v
      simp only at h1 h2
      have HV := hid hv
      clear hv
      cases hok : okv (c, m)
      · have N := hid (all_no (by rw [HL.out]; exact hlt) HV.out hok)
        have tk : (chk c m != 0) = true := by
          have hh : ¬ (okp c ∧ okp m) := by simpa [okv] using hok
          unfold chk; rw [if_neg hh]; decide
        go_wp2_with fail
        refine (check_any c m _).mono ?_
        rintro e w1 ⟨rfl, hq⟩
        have hB1 := (hB.alloc hB.size (.cells #[.int .i64 c, .int .i64 m] 32)).trans (hq.mono (by simp; have := hB.size; omega))
        go_wp2
        go_ret
        exact ⟨retb N.out.symm, hB1⟩
      · have N := hid (all_yes (by rw [HL.out]; exact hlt) ha.out HV.out hok)
        have tk : (chk c m != 0) = false := by
          have hh : okp c ∧ okp m := by simpa [okv] using hok
          unfold chk; rw [if_pos hh]; decide
        go_wp2_with fail
        refine (check_any c m _).mono ?_
        rintro e w1 ⟨rfl, hq⟩
        have hB1 := (hB.alloc hB.size (.cells #[.int .i64 c, .int .i64 m] 32)).trans (hq.mono (by simp; have := hB.size; omega))
        go_wp2
        go_roundw
        case rel => exact ⟨k + 1, by omega, by go_num, N.out, hB1⟩
        case measure => simp [intOf]; omega
    · have hall : Hid (vs.all okv = true) := by rw [← List.take_of_length_le (show vs.length ≤ k by rw [HL.out]; omega)]; exact ha.out
      go_wp2
      go_ret
      exact ⟨retb hall.out.symm, hB⟩

/-- The document's check of several. -/
def chks (vs : List (Int × Int)) : Int := if vs.all okv = true then 0 else 1

/-- Is a weight within its range? -/
def okw (x : Int) : Bool := decide (1 ≤ x ∧ x ≤ 1048576)

set_option maxHeartbeats 2000000 in
theorem weights_any (B cap : Nat) (x y : Int) (w : World) (h0 : w.cell? ⟨B, 0, none⟩ = some (.int .i64 x)) (h1 : w.cell? ⟨B, 1, none⟩ = some (.int .i64 y)) :
    Calls Try.prog 64 #[.slice (some ⟨B, 0, none⟩) 2 cap] w fun e w' => e = .returned (.bool (okw x && okw y)) ∧ w = w' := by
  have C : Hid (∀ k : Nat, k < 2 → w.cell? ⟨B, k, none⟩ = some (.int .i64 (if k = 0 then x else y))) := by
    intro k hk
    obtain rfl | rfl : k = 0 ∨ k = 1 := by omega
    · exact h0
    · exact h1
  clear h0 h1
  go_enter Try.func64, Try.ntmps64
  go_wp2_with fail
  go_loop [7] (fun i => ∃ k : Nat, k ≤ 2 ∧ i = .int .i64 k ∧ Hid (∀ j : Nat, j < k → okw (if j = 0 then x else y) = true)) (fun i => 2 - (intOf i).toNat)
  case atStart => exact ⟨0, by omega, rfl, fun j hj => by omega⟩
  case round =>
    obtain ⟨k, hk, rfl, ha⟩ := hrel
    by_cases hlt : k < 2
    · have hc := C.out k hlt
      have hd : okw (if k = 0 then x else y) = false → (okw x && okw y) = false := by
        obtain rfl | rfl : k = 0 ∨ k = 1 := by omega
        · intro h; simp at h; simp [h]
        · intro h; simp at h; simp [h]
      have HD := hid hd
      clear hd
      generalize hv : (if k = 0 then x else y) = v at hc HD
      have HV := hid hv
      clear hv
      have hstep : okw v = true → ∀ j : Nat, j < k + 1 → okw (if j = 0 then x else y) = true := by
        intro h j hj
        by_cases e : j = k
        · rw [e, HV.out]; exact h
        · exact ha.out j (by omega)
      have HS := hid hstep
      clear hstep
      by_cases g1 : v < 1
      · have t1 : decide (v < 1) = true := by simp; omega
        have E := hid (HD.out (by unfold okw; simp; omega))
        go_wp2
        go_ret
        exact ⟨retb E.out.symm, rfl⟩
      · have t1 : decide (v < 1) = false := by simp; omega
        by_cases g2 : 1048576 < v
        · have t2 : decide (1048576 < v) = true := by simp; omega
          have E := hid (HD.out (by unfold okw; simp; omega))
          go_wp2
          go_ret
          exact ⟨retb E.out.symm, rfl⟩
        · have t2 : decide (1048576 < v) = false := by simp; omega
          have E := hid (HS.out (by unfold okw; simp; omega))
          go_wp2
          go_round
          case rel => exact ⟨k + 1, by omega, by go_num, E.out⟩
          case measure => simp [intOf]; omega
    · have E : Hid ((okw x && okw y) = true) := by
        have a := ha.out 0 (by omega)
        have b := ha.out 1 (by omega)
        simp at a b
        show (okw x && okw y) = true
        simp [a, b]
      go_wp2
      go_ret
      exact ⟨retb E.out.symm, rfl⟩

end Go.Proofs.Ytdbkjcnanffibaa
