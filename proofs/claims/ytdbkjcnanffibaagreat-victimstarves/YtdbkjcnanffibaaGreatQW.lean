/-
  The document's answer for queues: place, Has, Find.
-/
import Derived.Test.YtdbkjcnanffibaaGreatQG
import Derived.Test.YtdbkjcnanffibaaGreatQM
namespace Go.Proofs.YtdbkjcnanffibaaGreat
open Go.RowKit Go.Deep Go.Maps Go.Shelf
set_option linter.unusedVariables false

/-- The place of an Id, or -1. -/
def plI (l : List Qu) (id : Int) : Int := if pl l id < l.length then (pl l id : Int) else -1
theorem plI_at {l : List Qu} {id : Int} {k : Nat} (hk : k < l.length) (h : ∀ i, i < k → (qa l i).id ≠ id) (e : (qa l k).id = id) : plI l id = (k : Int) := by
  have := pl_eq hk h e
  unfold plI; rw [this, if_pos hk]
theorem plI_no {l : List Qu} {id : Int} (h : ∀ i, i < l.length → (qa l i).id ≠ id) : plI l id = -1 := by
  unfold plI; rw [if_neg]
  intro hp; exact h _ hp (pl_id hp)

set_option maxRecDepth 100000 in
set_option maxHeartbeats 2000000 in
theorem place_any (a : Option Addr) (len cap : Nat) (l : List Qu) (id : Int) (w : World) (h : HoldsQ w a len cap l) :
    Calls Tryz.prog 38 #[.slice a len cap, .int .i64 id] w fun e w' => e = .returned (.int .i64 (plI l id)) ∧ Below w.heap.size w w' := by
  have HL := hid h.1
  have hcap := h.2.1
  have hcm := h.2.2.1
  rcases Nat.eq_zero_or_pos len with rfl | hp
  · have E : Hid (-1 = plI l id) := (plI_no (fun i hi => by rw [HL.out] at hi; omega)).symm
    clear h
    go_enter Tryz.func38, Tryz.ntmps38
    go_wp2_with fail
    refine wp_loop_rounds 1 ?_
    rw [rounds_succ]
    go_wp2
    go_ret
    exact ⟨ret1 E.out, Below.refl _ _⟩
  · obtain ⟨b, off, rfl, R⟩ := h.row hp
    have HR := hid R
    clear R h
    go_enter Tryz.func38, Tryz.ntmps38
    go_wp2_with fail
    go_loopw [9] (fun i wr => ∃ k : Nat, k ≤ len ∧ i = .int .i64 k ∧ Hid (∀ i, i < k → (qa l i).id ≠ id) ∧ Below w.heap.size w wr) (fun i _ => len - (intOf i).toNat)
    case atStart => exact ⟨0, by omega, rfl, fun i hi => by omega, Below.refl _ _⟩
    case round =>
      obtain ⟨k, hk, rfl, ha, hB⟩ := hrel
      by_cases hlt : k < len
      · obtain ⟨c0, c1, c2, c3, c4, c5, c6⟩ := (HR.out.below hB).2 k (by rw [HL.out]; exact hlt)
        by_cases hx : (qa l k).id = id
        · have E : Hid ((k : Int) = plI l id) := (plI_at (by rw [HL.out]; exact hlt) ha.out hx).symm
          have tx : ((qa l k).id == id) = true := by simpa using hx
          clear hx ha
          generalize qa l k = q at *
          obtain ⟨q1, q2, q3, q4, q5, q6, q7⟩ := q
          simp only at *
          go_wp2
          go_ret
          exact ⟨ret1 E.out, hB.alloc hB.size _⟩
        · have tx : ((qa l k).id == id) = false := by simpa using hx
          have N : Hid (∀ i, i < k + 1 → (qa l i).id ≠ id) := fun i hi => by
            rcases Nat.lt_or_ge i k with h | h
            · exact ha.out i h
            · obtain rfl : i = k := by omega
              exact hx
          clear hx ha
          generalize qa l k = q at *
          obtain ⟨q1, q2, q3, q4, q5, q6, q7⟩ := q
          simp only at *
          go_wp2
          go_roundw
          case rel => exact ⟨k + 1, by omega, by go_num, N, hB.alloc hB.size _⟩
          case measure => simp [intOf]; omega
      · have E : Hid (-1 = plI l id) := (plI_no (fun i hi => ha.out i (by rw [HL.out] at hi; omega))).symm
        go_wp2
        go_ret
        exact ⟨ret1 E.out, hB⟩

theorem plI_has {l : List Qu} {id : Int} : decide (0 ≤ plI l id) = hasQ l id := by
  unfold plI hasQ
  split
  · rename_i h; simp [h]
  · rename_i h; simp; omega

set_option maxHeartbeats 1000000 in
theorem rhas_any (a : Option Addr) (len cap : Nat) (l : List Qu) (id : Int) (w : World) (h : HoldsQ w a len cap l) :
    Calls Tryz.prog 16 #[.slice a len cap, .int .i64 id] w fun e w' => e = .returned (.bool (hasQ l id)) ∧ Below w.heap.size w w' := by
  have H := hid (place_any a len cap l id w h)
  have E := hid (plI_has (l := l) (id := id))
  clear h
  generalize plI l id = p at *
  go_enter Tryz.func16, Tryz.ntmps16
  go_wp2_with fail
  refine H.out.mono ?_
  rintro e w1 ⟨rfl, b1⟩
  go_wp2
  go_ret
  exact ⟨retb E.out, b1⟩

set_option maxRecDepth 100000 in
set_option maxHeartbeats 1000000 in
/-- Find, of a queue that is there. -/
theorem find_any (a : Option Addr) (len cap : Nat) (l : List Qu) (id : Int) (w : World) (h : HoldsQ w a len cap l) (hp : pl l id < len) :
    Calls Tryz.prog 21 #[.slice a len cap, .int .i64 id] w fun e w' => e = .returned (qv (qa l (pl l id))) ∧ Below w.heap.size w w' := by
  have H := hid (place_any a len cap l id (w.alloc (.cells #[.int .i64 0, .int .i64 0, .int .i64 0, .int .i64 0, .int .i64 0, .int .i64 0, .int .i64 0] 38)) (h.below (by repeat (first | exact Below.refl _ _ | assumption | refine Below.alloc ?_ (by simp <;> omega) _ | refine Below.setCell ?_ (by simp <;> omega) _ | refine Below.drew ?_ | refine below_drewN ?_ _))))
  have E : Hid (plI l id = (pl l id : Int)) := by unfold Hid plI; rw [if_pos (by rw [h.1]; exact hp)]
  obtain ⟨b, off, rfl, R⟩ := h.row (by omega)
  have HR := hid R
  have HL := hid h.1
  have hcap := h.2.1
  have hcm := h.2.2.1
  clear R h
  generalize plI l id = pI at *
  generalize pl l id = p at *
  go_enter Tryz.func21, Tryz.ntmps21
  go_wp2_with fail
  refine H.out.mono ?_
  rintro e w1 ⟨rfl, b1⟩
  rw [E.out]
  have hB1 : Below w.heap.size w w1 := Below.trans (by repeat (first | exact Below.refl _ _ | assumption | refine Below.alloc ?_ (by first | omega | (simp <;> omega)) _ | refine Below.setCell ?_ (by first | omega | (simp <;> omega)) _ | refine Below.drew ?_ | refine below_drewN ?_ _)) (b1.mono (by simp))
  obtain ⟨c0, c1, c2, c3, c4, c5, c6⟩ := (HR.out.below hB1).2 p (by rw [HL.out]; exact hp)
  have f0 := keepf b1 (a := ⟨w.heap.size, 0, none⟩) (v := .int .i64 0) (by simp [go_sem]) (by simp [go_sem])
  have r0 := keepc b1 (a := ⟨w.heap.size, 0, none⟩) (v := .int .i64 0) (by simp [go_sem])
  have f1 := keepf b1 (a := ⟨w.heap.size, 1, none⟩) (v := .int .i64 0) (by simp [go_sem]) (by simp [go_sem])
  have r1 := keepc b1 (a := ⟨w.heap.size, 1, none⟩) (v := .int .i64 0) (by simp [go_sem])
  have f2 := keepf b1 (a := ⟨w.heap.size, 2, none⟩) (v := .int .i64 0) (by simp [go_sem]) (by simp [go_sem])
  have r2 := keepc b1 (a := ⟨w.heap.size, 2, none⟩) (v := .int .i64 0) (by simp [go_sem])
  have f3 := keepf b1 (a := ⟨w.heap.size, 3, none⟩) (v := .int .i64 0) (by simp [go_sem]) (by simp [go_sem])
  have r3 := keepc b1 (a := ⟨w.heap.size, 3, none⟩) (v := .int .i64 0) (by simp [go_sem])
  have f4 := keepf b1 (a := ⟨w.heap.size, 4, none⟩) (v := .int .i64 0) (by simp [go_sem]) (by simp [go_sem])
  have r4 := keepc b1 (a := ⟨w.heap.size, 4, none⟩) (v := .int .i64 0) (by simp [go_sem])
  have f5 := keepf b1 (a := ⟨w.heap.size, 5, none⟩) (v := .int .i64 0) (by simp [go_sem]) (by simp [go_sem])
  have r5 := keepc b1 (a := ⟨w.heap.size, 5, none⟩) (v := .int .i64 0) (by simp [go_sem])
  have f6 := keepf b1 (a := ⟨w.heap.size, 6, none⟩) (v := .int .i64 0) (by simp [go_sem]) (by simp [go_sem])
  have r6 := keepc b1 (a := ⟨w.heap.size, 6, none⟩) (v := .int .i64 0) (by simp [go_sem])
  have hs1 := cell_lt r0
  simp only at hs1
  generalize hq : qa l p = q at *
  have HQ := hid hq
  clear hq
  obtain ⟨q1, q2, q3, q4, q5, q6, q7⟩ := q
  simp only at *
  have pb : (p : Int) < (len : Int) := by omega
  have pa : (0 : Int) ≤ (p : Int) := by omega
  have hbw := HR.out.1
  clear b1
  go_wp2
  refine bodyPost_ret (v := qv ⟨q1, q2, q3, q4, q5, q6, q7⟩) (by simp [results, Tryz.results21, go_sem, r0, r1, r2, r3, r4, r5, r6]) rfl ⟨by rw [HQ.out], ?_⟩
  exact (((((((hB1.setCell (p := ⟨w.heap.size, 0, none⟩) (Nat.le_refl _) _).setCell (p := ⟨w.heap.size, 1, none⟩) (Nat.le_refl _) _).setCell (p := ⟨w.heap.size, 2, none⟩) (Nat.le_refl _) _).setCell (p := ⟨w.heap.size, 3, none⟩) (Nat.le_refl _) _).setCell (p := ⟨w.heap.size, 4, none⟩) (Nat.le_refl _) _).setCell (p := ⟨w.heap.size, 5, none⟩) (Nat.le_refl _) _).setCell (p := ⟨w.heap.size, 6, none⟩) (Nat.le_refl _) _)

end Go.Proofs.YtdbkjcnanffibaaGreat
