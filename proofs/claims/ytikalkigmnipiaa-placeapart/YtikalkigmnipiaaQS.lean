/-
  Contracts of the statements' own helpers: lists compared, numbers compared and sought.
-/
import Derived.Test.YtikalkigmnipiaaQL
import Derived.Test.YtikalkigmnipiaaQM
import Derived.Laws.StructEq
namespace Go.Proofs.Ytikalkigmnipiaa
open Go.RowKit Go.Deep Go.Maps Go.Shelf
set_option linter.unusedVariables false
theorem keepb {w w' : World} {a : Addr} {v : Value} (hb : Below w.heap.size w w') (h : w.cell? a = some v) : w'.cell? a = some v := keepc hb h
theorem HoldsE.rowN {w : World} {a : Option Addr} {len cap : Nat} {l : List Int} (h : HoldsN w a len cap l) (hp : 0 < len) : ∃ b off, a = some ⟨b, off, none⟩ ∧ ∀ j, j < len → w.cell? ⟨b, off + j, none⟩ = some (.int .i64 (l[j]?.getD 0)) := by
  obtain ⟨h1, h2, h3, h4, h5⟩ := h
  obtain ⟨b, off, e, hlt, hc⟩ := h5 hp
  refine ⟨b, off, e, fun j hj => ?_⟩
  have := hc j (l[j]?.getD 0) (by rw [List.getElem?_eq_getElem (by omega)]; rfl) 0 _ rfl
  simpa using this

set_option maxRecDepth 100000 in
set_option maxHeartbeats 2000000 in
theorem ints_any (a b : Option Addr) (len ca cb : Nat) (l : List Int) (w : World) (h1 : HoldsN w a len ca l) (h2 : HoldsN w b len cb l) (hm : len ≤ 140737488355328) :
    Calls Try.prog 19 #[.slice a len ca, .slice b len cb] w fun e w' => e = .returned (.bool true) ∧ Below w.heap.size w w' := by
  rcases Nat.eq_zero_or_pos len with rfl | hp
  · clear h1 h2
    go_enter Try.func19, Try.ntmps19
    go_wp2_with fail
    refine wp_loop_rounds 1 ?_
    rw [rounds_succ]
    go_wp2
    go_ret
    exact ⟨rfl, Below.refl _ _⟩
  · have hca := h1.2.1
    have hcb := h2.2.1
    obtain ⟨b1, o1, rfl, R1⟩ := h1.rowN hp
    obtain ⟨b2, o2, rfl, R2⟩ := h2.rowN hp
    have HR1 := hid R1
    have HR2 := hid R2
    clear R1 R2 h1 h2
    go_enter Try.func19, Try.ntmps19
    go_wp2_with fail
    go_loopw [13] (fun i wr => ∃ k : Nat, k ≤ len ∧ i = .int .i64 k ∧ Below w.heap.size w wr) (fun i _ => len - (intOf i).toNat)
    case atStart => exact ⟨0, by omega, rfl, Below.refl _ _⟩
    case round =>
      obtain ⟨k, hk, rfl, hB⟩ := hrel
      by_cases hlt : k < len
      · have c := keepb hB (HR1.out k hlt)
        have d := keepb hB (HR2.out k hlt)
        generalize l[k]?.getD 0 = x at *
        have ka : (0 : Int) ≤ (k : Int) := by omega
        have kb : (k : Int) < (len : Int) := by omega
        have tx : (x != x) = false := by simp
        go_wp2_with fail
        go_quiet (fail)
        go_wp2
        go_roundw
        case rel => exact ⟨k + 1, by omega, by go_num, below_drewN hB _⟩
        case measure => simp [intOf]; omega
      · go_wp2
        go_ret
        exact ⟨rfl, hB⟩

/-- Is a number among these? -/
def hasN (l : List Int) (x : Int) : Bool := l.any (fun y => decide (y = x))
theorem hasN_iff {l : List Int} {x : Int} : hasN l x = true ↔ x ∈ l := by unfold hasN; simp
theorem hasN_yes {l : List Int} {x : Int} {k : Nat} (h : k < l.length) (e : l[k]?.getD 0 = x) : hasN l x = true := by
  rw [hasN_iff, ← e, List.getElem?_eq_getElem h]
  exact List.getElem_mem _
theorem hasN_no {l : List Int} {x : Int} (h : ∀ k, k < l.length → l[k]?.getD 0 ≠ x) : hasN l x = false := by
  cases hh : hasN l x
  · rfl
  · obtain ⟨k, hk, e⟩ := List.getElem_of_mem (hasN_iff.1 hh)
    exact absurd (by rw [List.getElem?_eq_getElem hk]; exact e) (h k hk)

set_option maxRecDepth 100000 in
set_option maxHeartbeats 2000000 in
theorem hasN_any (a : Option Addr) (len ca : Nat) (l : List Int) (x : Int) (w : World) (h1 : HoldsN w a len ca l) (hm : len ≤ 140737488355328) :
    Calls Try.prog 63 #[.slice a len ca, .int .i64 x] w fun e w' => e = .returned (.bool (hasN l x)) ∧ w = w' := by
  have HL := hid h1.1
  rcases Nat.eq_zero_or_pos len with rfl | hp
  · have E : Hid (false = hasN l x) := by obtain rfl := List.length_eq_zero_iff.1 HL.out; exact rfl
    clear h1
    go_enter Try.func63, Try.ntmps63
    go_wp2_with fail
    refine wp_loop_rounds 1 ?_
    rw [rounds_succ]
    go_wp2
    go_ret
    exact ⟨retb E.out, rfl⟩
  · have hca := h1.2.1
    obtain ⟨b1, o1, rfl, R1⟩ := h1.rowN hp
    have HR1 := hid R1
    clear R1 h1
    go_enter Try.func63, Try.ntmps63
    go_wp2_with fail
    go_loop [9] (fun i => ∃ k : Nat, k ≤ len ∧ i = .int .i64 k ∧ Hid (∀ j, j < k → l[j]?.getD 0 ≠ x)) (fun i => len - (intOf i).toNat)
    case atStart => exact ⟨0, by omega, rfl, fun j hj => by omega⟩
    case round =>
      obtain ⟨k, hk, rfl, ha⟩ := hrel
      by_cases hlt : k < len
      · have c := HR1.out k hlt
        by_cases hx : l[k]?.getD 0 = x
        · have E := hid (hasN_yes (by rw [HL.out]; exact hlt) hx)
          rw [hx] at c
          have tx : (x == x) = true := by simp
          clear hx ha
          go_wp2
          go_ret
          exact ⟨retb E.out.symm, rfl⟩
        · have tx : (l[k]?.getD 0 == x) = false := by simpa using hx
          have N : Hid (∀ j, j < k + 1 → l[j]?.getD 0 ≠ x) := fun j hj => by
            rcases Nat.lt_or_ge j k with h | h
            · exact ha.out j h
            · obtain rfl : j = k := by omega
              exact hx
          clear hx ha
          generalize l[k]?.getD 0 = y at *
          go_wp2
          go_round
          case rel => exact ⟨k + 1, by omega, by go_num, N⟩
          case measure => simp [intOf]; omega
      · have E : Hid (false = hasN l x) := (hasN_no (fun j hj => ha.out j (by rw [HL.out] at hj; omega))).symm
        go_wp2
        go_ret
        exact ⟨retb E.out, rfl⟩

end Go.Proofs.Ytikalkigmnipiaa
