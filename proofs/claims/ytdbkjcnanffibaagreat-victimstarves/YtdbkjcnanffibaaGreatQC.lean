/-
  Contracts of queue: the map of places.
-/
import Derived.Test.YtdbkjcnanffibaaGreatQB
namespace Go.Proofs.YtdbkjcnanffibaaGreat
open Go.RowKit Go.Deep Go.Maps
set_option linter.unusedVariables false

theorem formB_nil {l : List Qu} (h : l.length = 0) : formB l = false := by
  obtain rfl := List.length_eq_zero_iff.1 h; rfl

set_option maxHeartbeats 2000000 in
theorem meet_none (a : Option Addr) (cap : Nat) (w : World) :
    Calls Tryz.prog 49 #[.slice a 0 cap] w fun e w' => e = .returned (.tuple #[.map none, .bool false]) ∧ Below w.heap.size w w' := by
  go_enter Tryz.func49, Tryz.ntmps49
  go_wp2
  go_ret2
  exact ⟨rfl, Below.refl _ _⟩

set_option maxHeartbeats 2000000 in
theorem meet_root (b off len cap : Nat) (l : List Qu) (w : World) (hl : l.length = len) (h0 : 0 < len) (hm : len ≤ 64) (hcap : len ≤ cap) (hR : RowQ w b off l) (hno : okAt l 0 = false) :
    Calls Tryz.prog 49 #[.slice (some ⟨b, off, none⟩) len cap] w fun e w' => e = .returned (.tuple #[.map none, .bool false]) ∧ Below w.heap.size w w' := by
  obtain ⟨c0, c1, c2, c3, c4, c5, c6⟩ := hR.2 0 (by omega)
  clear hR
  simp only [Nat.zero_mul, Nat.add_zero] at c0 c1
  unfold okAt at hno
  rw [if_pos rfl] at hno
  have t0 : ((len : Int) == 0) = false := by simp; omega
  by_cases h1 : (qa l 0).id = 0
  · have t1 : ((qa l 0).id != 0) = false := by simp; omega
    have t2 : ((qa l 0).par != -1) = true := by simp [h1] at hno; simpa using hno
    clear hno h1
    generalize (qa l 0).id = x at *
    generalize (qa l 0).par = y at *
    go_enter Tryz.func49, Tryz.ntmps49
    go_wp2
    go_ret2
    exact ⟨rfl, Below.refl _ _⟩
  · have t1 : ((qa l 0).id != 0) = true := by simp; omega
    clear hno h1
    generalize (qa l 0).id = x at *
    go_enter Tryz.func49, Tryz.ntmps49
    go_wp2
    go_ret2
    exact ⟨rfl, Below.refl _ _⟩

set_option maxRecDepth 100000 in
set_option maxHeartbeats 2000000 in
theorem meet_row (b off len cap : Nat) (l : List Qu) (w : World) (hl : l.length = len) (h0 : 0 < len) (hm : len ≤ 64) (hcap : len ≤ cap) (hR : RowQ w b off l) (hok : ∀ q ∈ l, q.ok) (h00 : okAt l 0 = true) :
    Calls Tryz.prog 49 #[.slice (some ⟨b, off, none⟩) len cap] w fun e w' => ((formB l = true ∧ e = .returned (.tuple #[.map (some w.heap.size), .bool true]) ∧ PlM w' w.heap.size len l) ∨ (formB l = false ∧ e = .returned (.tuple #[.map none, .bool false]))) ∧ Below w.heap.size w w' := by
  obtain ⟨c0, c1, c2, c3, c4, c5, c6⟩ := hR.2 0 (by omega)
  simp only [Nat.zero_mul, Nat.add_zero] at c0 c1
  have H0 := hid h00
  have HR := hid hR
  have HO := hid hok
  have HL := hid hl
  clear hR hok hl
  unfold okAt at h00
  rw [if_pos rfl] at h00
  simp at h00
  rw [h00.1] at c0
  rw [h00.2] at c1
  clear h00 c2 c3 c4 c5 c6
  have hmm := @run_makeMap Tryz.prog
  have t0 : ((len : Int) == 0) = false := by simp; omega
  have i0 : I64 0 := by unfold I64; omega
  have hp0 : pl l (qa l 0).id = 0 := pl_eq (by rw [HL.out]; omega) (fun i hi => by omega) rfl
  have e0 : (qa l 0).id = 0 := by have := H0.out; unfold okAt at this; rw [if_pos rfl] at this; simp at this; exact this.1
  obtain ⟨w1, hrun, hown1, hgr1⟩ := (World.ownsMap_made (H := Unit) w Tryz.prog 3 (plainElem Tryz.prog 3)).update lawI Tryz.underlying72 (by unfold maxLen; omega) (keyI i0) (plainElem_int Tryz.underlying3 (wfI i0))
  have hB1 : Below w.heap.size w w1 := ((Below.refl _ _).alloc (Nat.le_refl _) _).grown hgr1 (by simp) (fun k e => by cases e; exact Nat.le_refl _)
  have hP1 : Hid (PlM w1 w.heap.size 1 l) := by
    refine plM_put (w := w) (k := 0) (D := .map []) (fun id => ⟨by simp [Maps.has], fun h => by omega⟩) ⟨[], rfl⟩ (by rw [HL.out]; omega) hp0 ?_
    rw [e0]; exact hown1
  clear hown1 hgr1
  have E0 := hid e0
  have HP0 := hid hp0
  clear e0 hp0
  by_cases hc1 : cap = 1
  · subst hc1
    obtain rfl : len = 1 := by omega
    have hF : Hid (formB l = true) := formB_iff.2 ⟨by rw [HL.out]; omega, fun i hi => by obtain rfl : i = 0 := by (rw [HL.out] at hi; omega)
                                                                                         exact H0.out⟩
    go_enter Tryz.func49, Tryz.ntmps49
    go_wp2_with fail
    refine wp_loop_rounds 1 ?_
    rw [rounds_succ]
    go_wp2
    go_ret2
    exact ⟨.inl ⟨hF.out, rfl, hP1.out⟩, hB1⟩
  · have hc1' : (cap == 1) = false := by simp; omega
    go_enter Tryz.func49, Tryz.ntmps49
    go_wp2_with fail
    go_loopw [31] (fun i wr => ∃ k : Nat, k + 1 ≤ len ∧ i = .int .i64 k ∧ Hid (∀ i, i < k + 1 → okAt l i = true) ∧ Hid (PlM wr w.heap.size (k + 1) l) ∧ Below w.heap.size w wr) (fun i _ => len - (intOf i).toNat)
    case atStart => exact ⟨0, by omega, rfl, fun i hi => by obtain rfl : i = 0 := by omega
                                                            exact H0.out, hP1, hB1⟩
    case round =>
      obtain ⟨k, hk, rfl, hall, hP, hB⟩ := hrel
      clear hrun hP1 hB1 c0 c1
      by_cases hlt : k + 1 < len
      · have hR := HR.out.below hB
        obtain ⟨c0, c1, c2, c3, c4, c5, c6⟩ := hR.2 (k + 1) (by rw [HL.out]; omega)
        obtain ⟨d0, d1, d2, d3, d4, d5, d6⟩ := hR.2 k (by rw [HL.out]; omega)
        rw [show off + (k + 1) * 7 = off + 7 + k * 7 by omega] at c0 c1 c2 c3 c4 c5 c6
        clear hR d1 d2 d3 d4 d5 d6
        have qok := qa_ok HO.out (k + 1)
        have ip := qok.2.1
        have hO : okAt l (k + 1) = (decide ((qa l k).id < (qa l (k + 1)).id) && decide (pl l (qa l (k + 1)).par < k + 1)) := by unfold okAt; rw [if_neg (by omega)]; rfl
        by_cases hp : pl l (qa l (k + 1)).par < k + 1
        · by_cases hr : (qa l k).id < (qa l (k + 1)).id
          · have hok1 : okAt l (k + 1) = true := by rw [hO]; simp [hp, hr]
            have hall1 : ∀ i, i < k + 1 + 1 → okAt l i = true := fun i hi => by
              rcases Nat.lt_or_ge i (k + 1) with h | h
              · exact hall.out i h
              · obtain rfl : i = k + 1 := by omega
                exact hok1
            have hpl := okAt_pl (by rw [HL.out]; omega) hall1 (show k + 1 < k + 1 + 1 by omega)
            have AL := hid hall1
            clear hall1 hall hok1 hO
            have tr : decide ((qa l (k + 1)).id ≤ (qa l k).id) = false := by simp; omega
            have L := fun o => ((hP.out.below ((Below.refl _ _).alloc (Nat.le_refl _) o)).look_yes ip hp)
            have PT : ∀ (o : Obj) (m : Nat), ∃ w', Sem.run Tryz.prog (Instr.mapUpdate 72 (.map (some w.heap.size)) (.int .i64 (qa l (k + 1)).id) (.int .i64 ((k : Int) + 1))) ((wr.alloc o).drewN m) = .ok () w' ∧ PlM w' w.heap.size (k + 1 + 1) l ∧ ((wr.alloc o).drewN m).grownBy w' (some w.heap.size) := fun o m => by
              have hP2 : PlM ((wr.alloc o).drewN m) w.heap.size (k + 1) l := (hP.out.below ((Below.refl _ _).alloc (Nat.le_refl _) o)).same (by rfl)
              have := hP2.put qok (by rw [HL.out]; omega) (by omega) hpl
              simpa using this
            have PTH := hid PT
            clear PT hpl
            generalize hq : qa l (k + 1) = q at *
            have HQ := hid hq
            clear hq
            generalize pl l q.par = pp at *
            obtain ⟨q1, q2, q3, q4, q5, q6, q7⟩ := q
            simp only at *
            have L1 := L (.cells #[.int .i64 q1, .int .i64 q2, .int .i64 q3, .int .i64 q4, .int .i64 q5, .int .i64 q6, .int .i64 q7] 38)
            clear L
            have D0 := keepc ((Below.refl _ wr).alloc (Nat.le_refl _) (.cells #[.int .i64 q1, .int .i64 q2, .int .i64 q3, .int .i64 q4, .int .i64 q5, .int .i64 q6, .int .i64 q7] 38)) d0
            have B0 : (wr.alloc (.cells #[.int .i64 q1, .int .i64 q2, .int .i64 q3, .int .i64 q4, .int .i64 q5, .int .i64 q6, .int .i64 q7] 38)).cell? ⟨wr.heap.size, 0, none⟩ = some (.int .i64 q1) := by simp [go_sem]
            have kb : (k : Int) < (len : Int) := by omega
            have ka : (0 : Int) ≤ (k : Int) := by omega
            go_wp2_with fail
            go_quiet (fail)
            obtain ⟨w2, hrun2, hP2, hg2⟩ := PTH.out (.cells #[.int .i64 q1, .int .i64 q2, .int .i64 q3, .int .i64 q4, .int .i64 q5, .int .i64 q6, .int .i64 q7] 38) nq
            have HP2 := hid hP2
            have HG2 := hid hg2
            clear hP2 hg2
            go_wp2
            go_roundw
            case rel => exact ⟨k + 1, by omega, by go_num, AL.out, HP2, ((hB.alloc hB.size _).trans (below_drewN (Below.refl _ _) _)).grown HG2.out (by simp; have := hB.size; omega) (fun j e => by cases e; exact Nat.le_refl _)⟩
            case measure => simp [intOf]; omega
          · have hno : Hid (formB l = false) := formB_no (i := k + 1) (by rw [HL.out]; omega) (by rw [hO]; simp [hr])
            have tr : decide ((qa l (k + 1)).id ≤ (qa l k).id) = true := by simp; omega
            have L := fun o => ((hP.out.below ((Below.refl _ _).alloc (Nat.le_refl _) o)).look_yes ip hp)
            clear hall hO
            generalize hq : qa l (k + 1) = q at *
            have HQ := hid hq
            clear hq
            generalize pl l q.par = pp at *
            obtain ⟨q1, q2, q3, q4, q5, q6, q7⟩ := q
            simp only at *
            have L1 := L (.cells #[.int .i64 q1, .int .i64 q2, .int .i64 q3, .int .i64 q4, .int .i64 q5, .int .i64 q6, .int .i64 q7] 38)
            clear L
            have D0 := keepc ((Below.refl _ wr).alloc (Nat.le_refl _) (.cells #[.int .i64 q1, .int .i64 q2, .int .i64 q3, .int .i64 q4, .int .i64 q5, .int .i64 q6, .int .i64 q7] 38)) d0
            have B0 : (wr.alloc (.cells #[.int .i64 q1, .int .i64 q2, .int .i64 q3, .int .i64 q4, .int .i64 q5, .int .i64 q6, .int .i64 q7] 38)).cell? ⟨wr.heap.size, 0, none⟩ = some (.int .i64 q1) := by simp [go_sem]
            have kb : (k : Int) < (len : Int) := by omega
            have ka : (0 : Int) ≤ (k : Int) := by omega
            go_wp2_with fail
            go_quiet (fail)
            go_wp2
            go_ret2
            exact ⟨.inr ⟨hno.out, rfl⟩, (hB.alloc hB.size _).trans (below_drewN (Below.refl _ _) _)⟩
        · have hno : Hid (formB l = false) := formB_no (i := k + 1) (by rw [HL.out]; omega) (by rw [hO]; simp; intro _; omega)
          have L := fun o => ((hP.out.below ((Below.refl _ _).alloc (Nat.le_refl _) o)).look_no ip hp)
          clear hall hO
          generalize hq : qa l (k + 1) = q at *
          have HQ := hid hq
          clear hq
          generalize pl l q.par = pp at *
          obtain ⟨q1, q2, q3, q4, q5, q6, q7⟩ := q
          simp only at *
          have L1 := L (.cells #[.int .i64 q1, .int .i64 q2, .int .i64 q3, .int .i64 q4, .int .i64 q5, .int .i64 q6, .int .i64 q7] 38)
          clear L
          have D0 := keepc ((Below.refl _ wr).alloc (Nat.le_refl _) (.cells #[.int .i64 q1, .int .i64 q2, .int .i64 q3, .int .i64 q4, .int .i64 q5, .int .i64 q6, .int .i64 q7] 38)) d0
          have B0 : (wr.alloc (.cells #[.int .i64 q1, .int .i64 q2, .int .i64 q3, .int .i64 q4, .int .i64 q5, .int .i64 q6, .int .i64 q7] 38)).cell? ⟨wr.heap.size, 0, none⟩ = some (.int .i64 q1) := by simp [go_sem]
          have kb : (k : Int) < (len : Int) := by omega
          have ka : (0 : Int) ≤ (k : Int) := by omega
          go_wp2_with fail
          go_quiet (fail)
          go_wp2
          go_ret2
          exact ⟨.inr ⟨hno.out, rfl⟩, (hB.alloc hB.size _).trans (below_drewN (Below.refl _ _) _)⟩
      · have hF : Hid (formB l = true) := formB_iff.2 ⟨by rw [HL.out]; omega, fun i hi => hall.out i (by rw [HL.out] at hi; omega)⟩
        have hP' : Hid (PlM wr w.heap.size len l) := by have := hP.out; rw [show k + 1 = len by omega] at this; exact this
        clear hP hall
        go_wp2
        go_ret2
        exact ⟨.inl ⟨hF.out, rfl, hP'.out⟩, hB⟩

theorem meet_any (a : Option Addr) (len cap : Nat) (l : List Qu) (w : World) (h : HoldsQ w a len cap l) (hok : ∀ q ∈ l, q.ok) (hm : len ≤ 64) :
    Calls Tryz.prog 49 #[.slice a len cap] w fun e w' => ((formB l = true ∧ e = .returned (.tuple #[.map (some w.heap.size), .bool true]) ∧ PlM w' w.heap.size len l) ∨ (formB l = false ∧ e = .returned (.tuple #[.map none, .bool false]))) ∧ Below w.heap.size w w' := by
  rcases Nat.eq_zero_or_pos len with rfl | hp
  · refine (meet_none a cap w).mono ?_
    rintro e w' ⟨rfl, hb⟩
    exact ⟨.inr ⟨formB_nil h.1, rfl⟩, hb⟩
  · obtain ⟨b, off, rfl, hR⟩ := h.row hp
    cases h0 : okAt l 0
    · refine (meet_root b off len cap l w h.1 hp hm h.2.1 hR h0).mono ?_
      rintro e w' ⟨rfl, hb⟩
      exact ⟨.inr ⟨formB_no (by rw [h.1]; exact hp) h0, rfl⟩, hb⟩
    · exact meet_row b off len cap l w h.1 hp hm h.2.1 hR hok h0

end Go.Proofs.YtdbkjcnanffibaaGreat
