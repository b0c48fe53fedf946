/-
  The document's answer for queues: place, Has, Find.
-/
import Derived.Test.YtdbkjcnanffibaaQG
import Derived.Test.YtdbkjcnanffibaaQM
namespace Go.Proofs.Ytdbkjcnanffibaa
open Go.RowKit Go.Deep Go.Maps Go.Shelf
set_option linter.unusedVariables false

/-- The place of an Id, or -1. -/
def plI (l : List Qu) (id : Int) : Int := if pl l id < l.length then (pl l id : Int) else -1
theorem plI_at {l : List Qu} {id : Int} {k : Nat} (hk : k < l.length) (h : ∀ i, i < k → (qa l i).id ≠ id) (e : (qa l k).id = id) : plI l id = (k : Int) := by
  have := pl_eq hk h e
  unfold plI; rw [this, if_pos hk]
theorem plI_no {l : List Qu} {id : Int} (h : ∀ i, i < l.length → (qa l i).id ≠ id) : plI l id = -1 := by
  unfold plI; rw [if_neg]
  intro hp; exact h _ hp (pl_id hp)

set_option maxRecDepth 100000 in
set_option maxHeartbeats 2000000 in
theorem place_any (a : Option Addr) (len cap : Nat) (l : List Qu) (id : Int) (w : World) (h : HoldsQ w a len cap l) :
    Calls Try.prog 30 #[.slice a len cap, .int .i64 id] w fun e w' => e = .returned (.int .i64 (plI l id)) ∧ Below w.heap.size w w' := by
  have HL := hid h.1
  have hcap := h.2.1
  have hcm := h.2.2.1
  rcases Nat.eq_zero_or_pos len with rfl | hp
  · have E : Hid (-1 = plI l id) := (plI_no (fun i hi => by rw [HL.out] at hi; omega)).symm
    clear h
    go_enter Try.func30, Try.ntmps30
    go_wp2_with fail
    refine wp_loop_rounds 1 ?_
    rw [rounds_succ]
    go_wp2
    go_ret
    exact ⟨ret1 E.out, Below.refl _ _⟩
  · obtain ⟨b, off, rfl, R⟩ := h.row hp
    have HR := hid R
    clear R h
    go_enter Try.func30, Try.ntmps30
    go_wp2_with fail
    go_loopw [9] (fun i wr => ∃ k : Nat, k ≤ len ∧ i = .int .i64 k ∧ Hid (∀ i, i < k → (qa l i).id ≠ id) ∧ Below w.heap.size w wr) (fun i _ => len - (intOf i).toNat)
    case atStart => exact ⟨0, by omega, rfl, fun i hi => by omega, Below.refl _ _⟩
    case round =>
      obtain ⟨k, hk, rfl, ha, hB⟩ := hrel
      by_cases hlt : k < len
      · obtain ⟨c0, c1, c2, c3, c4, c5, c6⟩ := (HR.out.below hB).2 k (by rw [HL.out]; exact hlt)
        by_cases hx : (qa l k).id = id
        · have E : Hid ((k : Int) = plI l id) := (plI_at (by rw [HL.out]; exact hlt) ha.out hx).symm
          have tx : ((qa l k).id == id) = true := by simpa using hx
          clear hx ha
          generalize qa l k = q at *
          obtain ⟨q1, q2, q3, q4, q5, q6, q7⟩ := q
          simp only at *
          go_wp2
          go_ret
          exact ⟨ret1 E.out, hB.alloc hB.size _⟩
        · have tx : ((qa l k).id == id) = false := by simpa using hx
          have N : Hid (∀ i, i < k + 1 → (qa l i).id ≠ id) := fun i hi => by
            rcases Nat.lt_or_ge i k with h | h
            · exact ha.out i h
            · obtain rfl : i = k := by omega
              exact hx
          clear hx ha
          generalize qa l k = q at *
          obtain ⟨q1, q2, q3, q4, q5, q6, q7⟩ := q
          simp only at *
          go_wp2
          go_roundw
          case rel => exact ⟨k + 1, by omega, by go_num, N, hB.alloc hB.size _⟩
          case measure => simp [intOf]; omega
      · have E : Hid (-1 = plI l id) := (plI_no (fun i hi => ha.out i (by rw [HL.out] at hi; omega))).symm
        go_wp2
        go_ret
        exact ⟨ret1 E.out, hB⟩

theorem plI_has {l : List Qu} {id : Int} : decide (0 ≤ plI l id) = hasQ l id := by
  unfold plI hasQ
  split
  · rename_i h; simp [h]
  · rename_i h; simp; omega

end Go.Proofs.Ytdbkjcnanffibaa
