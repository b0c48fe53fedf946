/- QueueBack: for every list of queues and every queue the law answers true, and its arguments read as they did. No further conditions. -/
import Derived.Test.YtcfaciicljjpoaaQT
import Derived.Test.YtcfaciicljjpoaaQV
import Derived.Test.YtcfaciicljjpoaaRK
namespace Go.Proofs.Ytcfaciicljjpoaa.queueBack
open Go.ChangeShapes Go.WideShapes Go.ChangeAt Go.RowKit Go.Deep
set_option linter.unusedVariables false

set_option maxRecDepth 100000 in
set_option maxHeartbeats 8000000 in
theorem walk (a : Option Addr) (len cap : Nat) (l : List Qu) (q : Qu) (w : World) (h : HoldsQ w a len cap l) (hok : ∀ q ∈ l, q.ok) (hq : q.ok) :
    Calls Try.prog 6 #[.slice a len cap, qv q] w fun e w' => e = .returned (.bool true) ∧ Below w.heap.size w w' := by
  have HO := hid hok
  have HQ := hid hq
  have hcap0 := h.2.1
  have hcm := h.2.2.1
  have HL := hid h.1
  have DA := hid (fun h => drop_added (l := l) (q := q) h)
  have SB := hid (fun h => set_back (l := l) (q := q) h)
  have AZ := hid (fun h => addE_zero (l := l) (q := q) h)
  have SZ := hid (fun h => setE_zero (l := l) (q := q) h)
  obtain ⟨q1, q2, q3, q4, q5, q6, q7⟩ := q
  try simp only at *
  have HH := hid (h.below ((Below.refl _ w).alloc (Nat.le_refl _) (.cells #[.int .i64 q1, .int .i64 q2, .int .i64 q3, .int .i64 q4, .int .i64 q5, .int .i64 q6, .int .i64 q7] 26)))
  have HW0 := hid ((Below.refl _ w).alloc (Nat.le_refl _) (.cells #[.int .i64 q1, .int .i64 q2, .int .i64 q3, .int .i64 q4, .int .i64 q5, .int .i64 q6, .int .i64 q7] 26))
  clear h hok hq
  go_enter Try.func6, Try.ntmps6
  go_wp2_with fail
  refine (awake_any _).mono ?_
  rintro e w1 ⟨rfl, b1⟩
  have H1 := hid (HH.out.below b1)
  have B1 := hid b1
  clear b1
  have m0 := keepc B1.out (a := ⟨w.heap.size, 0, none⟩) (v := .int .i64 q1) (by simp [go_sem])
  have m1 := keepc B1.out (a := ⟨w.heap.size, 1, none⟩) (v := .int .i64 q2) (by simp [go_sem])
  have m2 := keepc B1.out (a := ⟨w.heap.size, 2, none⟩) (v := .int .i64 q3) (by simp [go_sem])
  have m3 := keepc B1.out (a := ⟨w.heap.size, 3, none⟩) (v := .int .i64 q4) (by simp [go_sem])
  have m4 := keepc B1.out (a := ⟨w.heap.size, 4, none⟩) (v := .int .i64 q5) (by simp [go_sem])
  have m5 := keepc B1.out (a := ⟨w.heap.size, 5, none⟩) (v := .int .i64 q6) (by simp [go_sem])
  have m6 := keepc B1.out (a := ⟨w.heap.size, 6, none⟩) (v := .int .i64 q7) (by simp [go_sem])
  go_wp2_with fail
  refine (add_q a len cap l ⟨q1, q2, q3, q4, q5, q6, q7⟩ w1 H1.out HO.out HQ.out).mono ?_
  rintro e w2 ⟨v2, rfl, o2, b2⟩
  obtain ⟨a2, c2, rfl, P2'⟩ := o2.holds
  have P2 := hid P2'
  have H2 := hid (H1.out.below b2)
  have B2 := hid (B1.out.trans (b2.mono B1.out.size))
  clear o2 b2 P2' H1 B1 m0 m1 m2 m3 m4 m5 m6
  by_cases hA : addE l ⟨q1, q2, q3, q4, q5, q6, q7⟩ = 0
  · obtain ⟨D1, D2, D3⟩ := DA.out hA
    obtain ⟨A1, A2, A3, A4⟩ := AZ.out hA
    have RA : Hid (addR l ⟨q1, q2, q3, q4, q5, q6, q7⟩ = addM l ⟨q1, q2, q3, q4, q5, q6, q7⟩) := by unfold Hid addR; rw [if_pos hA]
    rw [RA.out, D3, HL.out] at P2
    have RL : Hid ((addR l ⟨q1, q2, q3, q4, q5, q6, q7⟩).length = len + 1) := by unfold Hid; rw [RA.out, D3, HL.out]
    rw [RL.out, hA]
    have hle : len ≤ 64 := by rw [← HL.out]; exact (chkE_ok.1 A1).1
    have RD : Hid (dropR (addM l ⟨q1, q2, q3, q4, q5, q6, q7⟩) q1 = l) := by unfold Hid dropR; rw [if_pos D1]; exact D2
    have HD1 := hid D1
    have HA4 := hid A4
    have AO : Hid (∀ x ∈ addM l ⟨q1, q2, q3, q4, q5, q6, q7⟩, x.ok) := insQ_ok HO.out HQ.out
    clear D1 D2 D3 A1 A2 A3 A4 hA RL RA
    have m0 := keepc B2.out (a := ⟨w.heap.size, 0, none⟩) (v := .int .i64 q1) (by simp [go_sem])
    generalize addM l ⟨q1, q2, q3, q4, q5, q6, q7⟩ = M at *
    go_wp2_with fail
    refine (drop_any a2 (len + 1) c2 M q1 w2 P2.out AO.out HQ.out.1).mono ?_
    rintro e w3 ⟨v3, rfl, o3, b3⟩
    rw [HD1.out]
    rw [RD.out] at o3
    obtain ⟨a3, c3, rfl, P3'⟩ := o3.holds
    rw [HL.out] at P3' ⊢
    have P3 := hid P3'
    have P2_3 := hid (P2.out.below b3)
    have H3 := hid (H2.out.below b3)
    have B3 := hid (B2.out.trans (b3.mono B2.out.size))
    clear o3 b3 P3' P2 H2 B2 m0 RD
    go_wp2_with fail
    refine (same_any a3 a len c3 cap l w3 P3.out H3.out (by omega)).mono ?_
    rintro e w4 ⟨rfl, b4⟩
    have P2_4 := hid (P2_3.out.below b4)
    have H4 := hid (H3.out.below b4)
    have B4 := hid (B3.out.trans (b4.mono B3.out.size))
    clear b4 P3 P2_3 H3 B3
    go_wp2_with fail
    refine (check_q a2 (len + 1) c2 M w4 P2_4.out AO.out).mono ?_
    rintro e wn ⟨rfl, b5⟩
    rw [HA4.out]
    have Hn := hid (H4.out.below b5)
    have Bn := hid (B4.out.trans (b5.mono B4.out.size))
    have tl : (((len + 1 : Nat) : Int) != (len : Int) + 1) = false := by simp
    clear b5 H4 B4 P2_4 AO HA4 HD1
    have m0 := keepc Bn.out (a := ⟨w.heap.size, 0, none⟩) (v := .int .i64 q1) (by simp [go_sem])
    have m1 := keepc Bn.out (a := ⟨w.heap.size, 1, none⟩) (v := .int .i64 q2) (by simp [go_sem])
    have m2 := keepc Bn.out (a := ⟨w.heap.size, 2, none⟩) (v := .int .i64 q3) (by simp [go_sem])
    have m3 := keepc Bn.out (a := ⟨w.heap.size, 3, none⟩) (v := .int .i64 q4) (by simp [go_sem])
    have m4 := keepc Bn.out (a := ⟨w.heap.size, 4, none⟩) (v := .int .i64 q5) (by simp [go_sem])
    have m5 := keepc Bn.out (a := ⟨w.heap.size, 5, none⟩) (v := .int .i64 q6) (by simp [go_sem])
    have m6 := keepc Bn.out (a := ⟨w.heap.size, 6, none⟩) (v := .int .i64 q7) (by simp [go_sem])
    go_wp2_with fail
    refine (set_any a len cap l ⟨q1, q2, q3, q4, q5, q6, q7⟩ wn Hn.out HO.out HQ.out).mono ?_
    rintro e w5 ⟨v5, rfl, o5, b5⟩
    obtain ⟨a5, c5, rfl, P5'⟩ := o5.holds
    have P5 := hid P5'
    have H5 := hid (Hn.out.below b5)
    have B5 := hid (Bn.out.trans (b5.mono Bn.out.size))
    clear o5 b5 P5' Hn Bn m0 m1 m2 m3 m4 m5 m6
    by_cases hS : setE l ⟨q1, q2, q3, q4, q5, q6, q7⟩ = 0
    · obtain ⟨S1, S2, S3, S4, S5⟩ := SB.out hS
      obtain ⟨Z1, Z2, Z3, Z4⟩ := SZ.out hS
      have RS : setR l ⟨q1, q2, q3, q4, q5, q6, q7⟩ = setM l ⟨q1, q2, q3, q4, q5, q6, q7⟩ := by unfold setR; rw [if_pos hS]
      have RN : (setR l ⟨q1, q2, q3, q4, q5, q6, q7⟩).length = len := by rw [RS, setM_len, HL.out]
      rw [RS, setM_len, HL.out] at P5
      rw [RN, hS]
      rw [HL.out] at S3
      try simp only at S1 S2 S3 S4 S5 Z1 Z2 Z3 Z4
      have hle : len ≤ 64 := by rw [← HL.out]; exact (chkE_ok.1 Z1).1
      have BF : Hid (∀ k, k < pl l q1 → (qa l k).id ≠ q1) := fun k hk e => by
        have h1 := (chkE_ok.1 Z1).2.1.pl (i := k) (by rw [HL.out]; omega)
        rw [e] at h1
        omega
      have MO : Hid (∀ x ∈ setM l ⟨q1, q2, q3, q4, q5, q6, q7⟩, x.ok) := setM_ok HO.out HQ.out
      have XO : Hid ((qa l (pl l q1)).ok) := qa_ok HO.out _
      have RB : Hid (setR (setM l ⟨q1, q2, q3, q4, q5, q6, q7⟩) (qa l (pl l q1)) = l) := by unfold Hid setR; rw [if_pos S1]; exact S2
      have HS1 := hid S1
      have HS4 := hid S4
      have HS5 := hid S5
      have HZ4 := hid Z4
      have ML : Hid ((setM l ⟨q1, q2, q3, q4, q5, q6, q7⟩).length = len) := by unfold Hid; rw [setM_len, HL.out]
      obtain ⟨b, off, rfl, R⟩ := H5.out.row (by omega)
      have R5 := hid R
      clear S1 S2 S4 S5 Z1 Z2 Z3 Z4 hS RS RN R
      generalize setM l ⟨q1, q2, q3, q4, q5, q6, q7⟩ = M at *
      generalize pl l q1 = p at *
      have hca := P5.out.2.1
      have hcb := P5.out.2.2.1
      go_wp2_with fail
      go_loopw [64] (fun i wr => ∃ k : Nat, k ≤ p ∧ i = .int .i64 k ∧ Hid (Below w5.heap.size w5 wr)) (fun i _ => len - (intOf i).toNat)
      case atStart => exact ⟨0, by omega, rfl, Below.refl _ _⟩
      case round =>
        obtain ⟨k, hk, rfl, hB⟩ := hrel
        have hlt : k < len := by omega
        obtain ⟨c0, c1, c2', c3', c4', c5', c6'⟩ := (R5.out.below hB.out).2 k (by rw [HL.out]; exact hlt)
        have Br := hid (B5.out.trans (hB.out.mono B5.out.size))
        have ka : (0 : Int) ≤ (k : Int) := by omega
        have kb : (k : Int) < (len : Int) := by omega
        by_cases hkp : k = p
        · have tx := HS5.out
          rw [← hkp] at tx HS1 XO RB HS4
          have HKP := hid hkp
          clear hkp
          have tx' : ((qa l k).id == q1) = true := by simpa using tx
          have m0 := keepc Br.out (a := ⟨w.heap.size, 0, none⟩) (v := .int .i64 q1) (by simp [go_sem])
          have m1 := keepc Br.out (a := ⟨w.heap.size, 1, none⟩) (v := .int .i64 q2) (by simp [go_sem])
          have m2 := keepc Br.out (a := ⟨w.heap.size, 2, none⟩) (v := .int .i64 q3) (by simp [go_sem])
          have m3 := keepc Br.out (a := ⟨w.heap.size, 3, none⟩) (v := .int .i64 q4) (by simp [go_sem])
          have m4 := keepc Br.out (a := ⟨w.heap.size, 4, none⟩) (v := .int .i64 q5) (by simp [go_sem])
          have m5 := keepc Br.out (a := ⟨w.heap.size, 5, none⟩) (v := .int .i64 q6) (by simp [go_sem])
          have m6 := keepc Br.out (a := ⟨w.heap.size, 6, none⟩) (v := .int .i64 q7) (by simp [go_sem])
          clear tx
          generalize qa l k = x at *
          obtain ⟨x1, x2, x3, x4, x5, x6, x7⟩ := x
          simp only at *
          go_wp2_with fail
          go_quiet (fail)
          generalize hnd : World.drewN wr _ = nd
          have hB3 : Below wr.heap.size wr nd := by rw [← hnd]; exact below_drewN (Below.refl _ _) _
          have d0 := keepc hB3 c0
          have d1 := keepc hB3 c1
          have d2 := keepc hB3 c2'
          have d3 := keepc hB3 c3'
          have d4 := keepc hB3 c4'
          have d5 := keepc hB3 c5'
          have d6 := keepc hB3 c6'
          have Pd := hid ((P5.out.below hB.out).below hB3)
          have Hd := hid ((H5.out.below hB.out).below hB3)
          have Bd := hid (Br.out.trans (hB3.mono Br.out.size))
          clear hnd hB3 m0 m1 m2 m3 m4 m5 m6 c0 c1 c2' c3' c4' c5' c6' tx'
          go_wp2_with fail
          refine (set_any a5 len c5 M ⟨x1, x2, x3, x4, x5, x6, x7⟩ nd Pd.out MO.out XO.out).mono ?_
          rintro e w6 ⟨v6, rfl, o6, b6⟩
          rw [HS1.out]
          rw [RB.out] at o6
          obtain ⟨a6, c6, rfl, P6'⟩ := o6.holds
          rw [HL.out] at P6' ⊢
          have P6 := hid P6'
          have P5_6 := hid (Pd.out.below b6)
          have H6 := hid (Hd.out.below b6)
          have B6 := hid (Bd.out.trans (b6.mono Bd.out.size))
          clear o6 b6 P6' Pd Hd Bd d0 d1 d2 d3 d4 d5 d6
          have heq := eql_same
          have s6 := B6.out.size
          obtain ⟨rb, ro, rfl, RM⟩ := P5_6.out.row (by omega)
          have HRM := hid RM
          clear RM
          have SA := hid (fun W (hW : Below w6.heap.size w6 W) => same_any a6 (some ⟨b, off, none⟩) len c6 cap l W (P6.out.below hW) (H6.out.below hW) (by omega))
          have CQ := hid (fun W (hW : Below w6.heap.size w6 W) => check_q (some ⟨rb, ro, none⟩) len c5 M W (P5_6.out.below hW) MO.out)
          rw [HZ4.out] at CQ
          go_wp2_with fail
          go_region_with (first
            | (go_at_call 21; refine (SA.out _ (by repeat (first | exact Below.refl _ _ | assumption | refine Below.alloc ?_ (by first | omega | (simp <;> omega)) _ | refine Below.setCell ?_ (by first | omega | (simp <;> omega)) _ | refine Below.drew ?_ | refine below_drewN ?_ _))).mono ?_; rintro e w7 ⟨rfl, b7⟩; have B7 : Hid (Below w6.heap.size w6 w7) := Below.trans (by repeat (first | exact Below.refl _ _ | assumption | refine Below.alloc ?_ (by first | omega | (simp <;> omega)) _ | refine Below.setCell ?_ (by first | omega | (simp <;> omega)) _ | refine Below.drew ?_ | refine below_drewN ?_ _)) (Below.mono ⟨b7.os, b7.tape, b7.output, b7.size, b7.block⟩ (by simp)); have s7 := B7.out.size; clear b7)
            | (go_at_call 19; refine (CQ.out _ (B7.out.trans (by repeat (first | exact Below.refl _ _ | assumption | refine Below.alloc ?_ (by first | omega | (simp <;> omega)) _ | refine Below.setCell ?_ (by first | omega | (simp <;> omega)) _ | refine Below.drew ?_ | refine below_drewN ?_ _)))).mono ?_; rintro e w8 ⟨rfl, b8⟩; have B8 : Hid (Below w6.heap.size w6 w8) := B7.out.trans (Below.mono ⟨b8.os, b8.tape, b8.output, b8.size, b8.block⟩ s7); obtain ⟨g0, g1, g2, g3, g4, g5, g6⟩ := (HRM.out.below B8.out).2 k (by rw [ML.out]; exact hlt); rw [HS4.out] at g0 g1 g2 g3 g4 g5 g6; simp only at g0 g1 g2 g3 g4 g5 g6; have B9 := hid (B6.out.trans (B8.out.mono s6)); have m0 := keepc B9.out (a := ⟨w.heap.size, 0, none⟩) (v := .int .i64 q1) (by simp [go_sem]); have m1 := keepc B9.out (a := ⟨w.heap.size, 1, none⟩) (v := .int .i64 q2) (by simp [go_sem]); have m2 := keepc B9.out (a := ⟨w.heap.size, 2, none⟩) (v := .int .i64 q3) (by simp [go_sem]); have m3 := keepc B9.out (a := ⟨w.heap.size, 3, none⟩) (v := .int .i64 q4) (by simp [go_sem]); have m4 := keepc B9.out (a := ⟨w.heap.size, 4, none⟩) (v := .int .i64 q5) (by simp [go_sem]); have m5 := keepc B9.out (a := ⟨w.heap.size, 5, none⟩) (v := .int .i64 q6) (by simp [go_sem]); have m6 := keepc B9.out (a := ⟨w.heap.size, 6, none⟩) (v := .int .i64 q7) (by simp [go_sem]); clear b8))
          all_goals go_wp2
          all_goals
            go_ret
            exact ⟨rfl, HW0.out.trans (B9.out.mono HW0.out.size)⟩
        · have tx := BF.out k (by omega)
          have tx' : ((qa l k).id == q1) = false := by simpa using tx
          have m0 := keepc Br.out (a := ⟨w.heap.size, 0, none⟩) (v := .int .i64 q1) (by simp [go_sem])
          clear tx
          generalize qa l k = x at *
          obtain ⟨x1, x2, x3, x4, x5, x6, x7⟩ := x
          simp only at *
          go_wp2_with fail
          go_quiet (fail)
          go_wp2
          go_roundw
          case rel => exact ⟨k + 1, by omega, by go_num, below_drewN hB.out _⟩
          case measure => simp [intOf]; omega
    · have t5 : (setE l ⟨q1, q2, q3, q4, q5, q6, q7⟩ != 0) = true := by simpa using hS
      have RN : (setR l ⟨q1, q2, q3, q4, q5, q6, q7⟩).length = 0 := by unfold setR; rw [if_neg hS]; rfl
      rw [RN]
      clear hS RN P5
      generalize setE l ⟨q1, q2, q3, q4, q5, q6, q7⟩ = E2 at *
      go_wp2
      go_ret
      exact ⟨rfl, HW0.out.trans (B5.out.mono HW0.out.size)⟩
  · have t : (addE l ⟨q1, q2, q3, q4, q5, q6, q7⟩ == 0) = false := by simpa using hA
    have RA : Hid (addR l ⟨q1, q2, q3, q4, q5, q6, q7⟩ = []) := by unfold Hid addR; rw [if_neg hA]
    rw [RA.out] at P2
    have RL : Hid ((addR l ⟨q1, q2, q3, q4, q5, q6, q7⟩).length = 0) := by unfold Hid; rw [RA.out]; rfl
    rw [RL.out]
    clear hA RA RL P2
    generalize addE l ⟨q1, q2, q3, q4, q5, q6, q7⟩ = E at *
    obtain ⟨wn, hwn⟩ : ∃ wn, wn = w2 := ⟨_, rfl⟩
    rw [← hwn] at H2 B2 ⊢
    have Hn := H2
    have Bn := B2
    clear hwn H2 B2
    have m0 := keepc Bn.out (a := ⟨w.heap.size, 0, none⟩) (v := .int .i64 q1) (by simp [go_sem])
    have m1 := keepc Bn.out (a := ⟨w.heap.size, 1, none⟩) (v := .int .i64 q2) (by simp [go_sem])
    have m2 := keepc Bn.out (a := ⟨w.heap.size, 2, none⟩) (v := .int .i64 q3) (by simp [go_sem])
    have m3 := keepc Bn.out (a := ⟨w.heap.size, 3, none⟩) (v := .int .i64 q4) (by simp [go_sem])
    have m4 := keepc Bn.out (a := ⟨w.heap.size, 4, none⟩) (v := .int .i64 q5) (by simp [go_sem])
    have m5 := keepc Bn.out (a := ⟨w.heap.size, 5, none⟩) (v := .int .i64 q6) (by simp [go_sem])
    have m6 := keepc Bn.out (a := ⟨w.heap.size, 6, none⟩) (v := .int .i64 q7) (by simp [go_sem])
    go_wp2_with fail
    refine (set_any a len cap l ⟨q1, q2, q3, q4, q5, q6, q7⟩ wn Hn.out HO.out HQ.out).mono ?_
    rintro e w5 ⟨v5, rfl, o5, b5⟩
    obtain ⟨a5, c5, rfl, P5'⟩ := o5.holds
    have P5 := hid P5'
    have H5 := hid (Hn.out.below b5)
    have B5 := hid (Bn.out.trans (b5.mono Bn.out.size))
    clear o5 b5 P5' Hn Bn m0 m1 m2 m3 m4 m5 m6
    by_cases hS : setE l ⟨q1, q2, q3, q4, q5, q6, q7⟩ = 0
    · obtain ⟨S1, S2, S3, S4, S5⟩ := SB.out hS
      obtain ⟨Z1, Z2, Z3, Z4⟩ := SZ.out hS
      have RS : setR l ⟨q1, q2, q3, q4, q5, q6, q7⟩ = setM l ⟨q1, q2, q3, q4, q5, q6, q7⟩ := by unfold setR; rw [if_pos hS]
      have RN : (setR l ⟨q1, q2, q3, q4, q5, q6, q7⟩).length = len := by rw [RS, setM_len, HL.out]
      rw [RS, setM_len, HL.out] at P5
      rw [RN, hS]
      rw [HL.out] at S3
      try simp only at S1 S2 S3 S4 S5 Z1 Z2 Z3 Z4
      have hle : len ≤ 64 := by rw [← HL.out]; exact (chkE_ok.1 Z1).1
      have BF : Hid (∀ k, k < pl l q1 → (qa l k).id ≠ q1) := fun k hk e => by
        have h1 := (chkE_ok.1 Z1).2.1.pl (i := k) (by rw [HL.out]; omega)
        rw [e] at h1
        omega
      have MO : Hid (∀ x ∈ setM l ⟨q1, q2, q3, q4, q5, q6, q7⟩, x.ok) := setM_ok HO.out HQ.out
      have XO : Hid ((qa l (pl l q1)).ok) := qa_ok HO.out _
      have RB : Hid (setR (setM l ⟨q1, q2, q3, q4, q5, q6, q7⟩) (qa l (pl l q1)) = l) := by unfold Hid setR; rw [if_pos S1]; exact S2
      have HS1 := hid S1
      have HS4 := hid S4
      have HS5 := hid S5
      have HZ4 := hid Z4
      have ML : Hid ((setM l ⟨q1, q2, q3, q4, q5, q6, q7⟩).length = len) := by unfold Hid; rw [setM_len, HL.out]
      obtain ⟨b, off, rfl, R⟩ := H5.out.row (by omega)
      have R5 := hid R
      clear S1 S2 S4 S5 Z1 Z2 Z3 Z4 hS RS RN R
      generalize setM l ⟨q1, q2, q3, q4, q5, q6, q7⟩ = M at *
      generalize pl l q1 = p at *
      have hca := P5.out.2.1
      have hcb := P5.out.2.2.1
      go_wp2_with fail
      go_loopw [64] (fun i wr => ∃ k : Nat, k ≤ p ∧ i = .int .i64 k ∧ Hid (Below w5.heap.size w5 wr)) (fun i _ => len - (intOf i).toNat)
      case atStart => exact ⟨0, by omega, rfl, Below.refl _ _⟩
      case round =>
        obtain ⟨k, hk, rfl, hB⟩ := hrel
        have hlt : k < len := by omega
        obtain ⟨c0, c1, c2', c3', c4', c5', c6'⟩ := (R5.out.below hB.out).2 k (by rw [HL.out]; exact hlt)
        have Br := hid (B5.out.trans (hB.out.mono B5.out.size))
        have ka : (0 : Int) ≤ (k : Int) := by omega
        have kb : (k : Int) < (len : Int) := by omega
        by_cases hkp : k = p
        · have tx := HS5.out
          rw [← hkp] at tx HS1 XO RB HS4
          have HKP := hid hkp
          clear hkp
          have tx' : ((qa l k).id == q1) = true := by simpa using tx
          have m0 := keepc Br.out (a := ⟨w.heap.size, 0, none⟩) (v := .int .i64 q1) (by simp [go_sem])
          have m1 := keepc Br.out (a := ⟨w.heap.size, 1, none⟩) (v := .int .i64 q2) (by simp [go_sem])
          have m2 := keepc Br.out (a := ⟨w.heap.size, 2, none⟩) (v := .int .i64 q3) (by simp [go_sem])
          have m3 := keepc Br.out (a := ⟨w.heap.size, 3, none⟩) (v := .int .i64 q4) (by simp [go_sem])
          have m4 := keepc Br.out (a := ⟨w.heap.size, 4, none⟩) (v := .int .i64 q5) (by simp [go_sem])
          have m5 := keepc Br.out (a := ⟨w.heap.size, 5, none⟩) (v := .int .i64 q6) (by simp [go_sem])
          have m6 := keepc Br.out (a := ⟨w.heap.size, 6, none⟩) (v := .int .i64 q7) (by simp [go_sem])
          clear tx
          generalize qa l k = x at *
          obtain ⟨x1, x2, x3, x4, x5, x6, x7⟩ := x
          simp only at *
          go_wp2_with fail
          go_quiet (fail)
          generalize hnd : World.drewN wr _ = nd
          have hB3 : Below wr.heap.size wr nd := by rw [← hnd]; exact below_drewN (Below.refl _ _) _
          have d0 := keepc hB3 c0
          have d1 := keepc hB3 c1
          have d2 := keepc hB3 c2'
          have d3 := keepc hB3 c3'
          have d4 := keepc hB3 c4'
          have d5 := keepc hB3 c5'
          have d6 := keepc hB3 c6'
          have Pd := hid ((P5.out.below hB.out).below hB3)
          have Hd := hid ((H5.out.below hB.out).below hB3)
          have Bd := hid (Br.out.trans (hB3.mono Br.out.size))
          clear hnd hB3 m0 m1 m2 m3 m4 m5 m6 c0 c1 c2' c3' c4' c5' c6' tx'
          go_wp2_with fail
          refine (set_any a5 len c5 M ⟨x1, x2, x3, x4, x5, x6, x7⟩ nd Pd.out MO.out XO.out).mono ?_
          rintro e w6 ⟨v6, rfl, o6, b6⟩
          rw [HS1.out]
          rw [RB.out] at o6
          obtain ⟨a6, c6, rfl, P6'⟩ := o6.holds
          rw [HL.out] at P6' ⊢
          have P6 := hid P6'
          have P5_6 := hid (Pd.out.below b6)
          have H6 := hid (Hd.out.below b6)
          have B6 := hid (Bd.out.trans (b6.mono Bd.out.size))
          clear o6 b6 P6' Pd Hd Bd d0 d1 d2 d3 d4 d5 d6
          have heq := eql_same
          have s6 := B6.out.size
          obtain ⟨rb, ro, rfl, RM⟩ := P5_6.out.row (by omega)
          have HRM := hid RM
          clear RM
          have SA := hid (fun W (hW : Below w6.heap.size w6 W) => same_any a6 (some ⟨b, off, none⟩) len c6 cap l W (P6.out.below hW) (H6.out.below hW) (by omega))
          have CQ := hid (fun W (hW : Below w6.heap.size w6 W) => check_q (some ⟨rb, ro, none⟩) len c5 M W (P5_6.out.below hW) MO.out)
          rw [HZ4.out] at CQ
          go_wp2_with fail
          go_region_with (first
            | (go_at_call 21; refine (SA.out _ (by repeat (first | exact Below.refl _ _ | assumption | refine Below.alloc ?_ (by first | omega | (simp <;> omega)) _ | refine Below.setCell ?_ (by first | omega | (simp <;> omega)) _ | refine Below.drew ?_ | refine below_drewN ?_ _))).mono ?_; rintro e w7 ⟨rfl, b7⟩; have B7 : Hid (Below w6.heap.size w6 w7) := Below.trans (by repeat (first | exact Below.refl _ _ | assumption | refine Below.alloc ?_ (by first | omega | (simp <;> omega)) _ | refine Below.setCell ?_ (by first | omega | (simp <;> omega)) _ | refine Below.drew ?_ | refine below_drewN ?_ _)) (Below.mono ⟨b7.os, b7.tape, b7.output, b7.size, b7.block⟩ (by simp)); have s7 := B7.out.size; clear b7)
            | (go_at_call 19; refine (CQ.out _ (B7.out.trans (by repeat (first | exact Below.refl _ _ | assumption | refine Below.alloc ?_ (by first | omega | (simp <;> omega)) _ | refine Below.setCell ?_ (by first | omega | (simp <;> omega)) _ | refine Below.drew ?_ | refine below_drewN ?_ _)))).mono ?_; rintro e w8 ⟨rfl, b8⟩; have B8 : Hid (Below w6.heap.size w6 w8) := B7.out.trans (Below.mono ⟨b8.os, b8.tape, b8.output, b8.size, b8.block⟩ s7); obtain ⟨g0, g1, g2, g3, g4, g5, g6⟩ := (HRM.out.below B8.out).2 k (by rw [ML.out]; exact hlt); rw [HS4.out] at g0 g1 g2 g3 g4 g5 g6; simp only at g0 g1 g2 g3 g4 g5 g6; have B9 := hid (B6.out.trans (B8.out.mono s6)); have m0 := keepc B9.out (a := ⟨w.heap.size, 0, none⟩) (v := .int .i64 q1) (by simp [go_sem]); have m1 := keepc B9.out (a := ⟨w.heap.size, 1, none⟩) (v := .int .i64 q2) (by simp [go_sem]); have m2 := keepc B9.out (a := ⟨w.heap.size, 2, none⟩) (v := .int .i64 q3) (by simp [go_sem]); have m3 := keepc B9.out (a := ⟨w.heap.size, 3, none⟩) (v := .int .i64 q4) (by simp [go_sem]); have m4 := keepc B9.out (a := ⟨w.heap.size, 4, none⟩) (v := .int .i64 q5) (by simp [go_sem]); have m5 := keepc B9.out (a := ⟨w.heap.size, 5, none⟩) (v := .int .i64 q6) (by simp [go_sem]); have m6 := keepc B9.out (a := ⟨w.heap.size, 6, none⟩) (v := .int .i64 q7) (by simp [go_sem]); clear b8))
          all_goals go_wp2
          all_goals
            go_ret
            exact ⟨rfl, HW0.out.trans (B9.out.mono HW0.out.size)⟩
        · have tx := BF.out k (by omega)
          have tx' : ((qa l k).id == q1) = false := by simpa using tx
          have m0 := keepc Br.out (a := ⟨w.heap.size, 0, none⟩) (v := .int .i64 q1) (by simp [go_sem])
          clear tx
          generalize qa l k = x at *
          obtain ⟨x1, x2, x3, x4, x5, x6, x7⟩ := x
          simp only at *
          go_wp2_with fail
          go_quiet (fail)
          go_wp2
          go_roundw
          case rel => exact ⟨k + 1, by omega, by go_num, below_drewN hB.out _⟩
          case measure => simp [intOf]; omega
    · have t5 : (setE l ⟨q1, q2, q3, q4, q5, q6, q7⟩ != 0) = true := by simpa using hS
      have RN : (setR l ⟨q1, q2, q3, q4, q5, q6, q7⟩).length = 0 := by unfold setR; rw [if_neg hS]; rfl
      rw [RN]
      clear hS RN P5
      generalize setE l ⟨q1, q2, q3, q4, q5, q6, q7⟩ = E2 at *
      go_wp2
      go_ret
      exact ⟨rfl, HW0.out.trans (B5.out.mono HW0.out.size)⟩

theorem own : ownKnob Try.prog.godebug = none := by kernel_rfl
theorem laidOut : laidOutB Try.prog = true := by kernel_rfl

set_option maxRecDepth 100000 in
theorem lifted (os : Os) (started : os.Started) (H : Type) (enc : TypeId × Value → H) :
    ReturnsInHanded {} Try.checked os 6 .any (Rows.queueBackSpec.pre6 enc Try.prog Try.f6 Rows.queueBackRow.domain false) (Rows.queueBackSpec.post enc Try.prog Try.f6 false true false false) := by
  refine returnsInHanded_of_change (C := Try.checked) own started (by kernel_rfl) Try.func6
    (ChangeSpec.witness6 (enc := enc) (C := Try.checked) false ⟨#[], #[.slice none 0 0, .agg #[.int .i64 0, .int .i64 0, .int .i64 0, .int .i64 0, .int .i64 0, .int .i64 0, .int .i64 0]], []⟩ 8 (by kernel_rfl) (by kernel_rfl) (by kernel_rfl) (by kernel_rfl)) ?_
  intro W base args ds gs before hval0 hW hcnd _
  have hval : ∀ (j : Nat) t v, Try.f6.params[j]? = some t → args[j]? = some v → Value.okWide Try.prog W .any base t v := hval0
  have hW' := hW
  obtain ⟨p, q, hA0, hV, rfl, hfz, hnd⟩ := hW
  have hA : DataW.TrodAll enc Try.prog W 0 (fun _ => true) true Try.f6.params.toList args.toList ds p := hA0
  rw [Try.params6] at hA hval
  obtain ⟨v0, vs0, d0, ds0, p0, q0, hargs, rfl, rfl, h0, r0⟩ := trodAll_cons hA
  obtain ⟨v1, vs1, d1, ds1, p1, q1, rfl, rfl, rfl, h1, r1⟩ := trodAll_cons r0
  obtain ⟨rfl, rfl, rfl⟩ := trodAll_nil r1
  obtain rfl : args = #[v0, v1] := by cases args; simp_all
  obtain ⟨rfl, rfl⟩ := trodVars_none hV
  have lt0 : ∀ x ∈ p0, x.block < W.heap.size := by obtain ⟨m, hm⟩ := h0; exact DataW.trod_lt m _ _ _ hm
  have lt1 : ∀ x ∈ p1, x.block < W.heap.size := by obtain ⟨m, hm⟩ := h1; exact DataW.trod_lt m _ _ _ hm
  obtain ⟨a0, len0, cap0, rfl⟩ := okWide_slice Try.underlying22 (hval 0 22 v0 rfl rfl)
  obtain ⟨z0, w0, k0, dr0⟩ := val_rowE (k := 7) (en := Qu.cs) (ok := Qu.ok) Try.underlying22 (by kernel_rfl) Qu.cs_len (by decide) (fun _ _ _ h => trod_queue h) h0
  obtain ⟨a1, rfl, w1⟩ := val_queue (hval 1 26 v1 rfl rfl) h1
  clear hA0 hval0
  refine (walk a0 len0 cap0 z0 a1 W w0 k0 w1).mono fun e W' ⟨he, bel⟩ => ?_
  subst he
  exact ⟨_, rfl, _, _, _, [], _, [], hW', trodAll_mk1 (shut_bool Try.underlying4 _), (trodAll_cons_mk (Below.trod laidOut (by kernel_rfl) (of_decide_eq_true (by kernel_rfl)) h0 bel lt0) (trodAll_cons_mk (Below.trod laidOut (by kernel_rfl) (of_decide_eq_true (by kernel_rfl)) h1 bel lt1) trodAll_mk0)), rfl, bel.frame _, fun h => by cases h⟩

theorem over : Rows.queueBackRow.holds Try.pinned (OpenSpec.ofChange Rows.queueBackSpec) :=
  OpenClaim.holds_of_wide 6 Try.f6 rfl rfl rfl rfl rfl rfl rfl ⟨rfl, rfl, rfl, rfl, rfl⟩ rfl rfl rfl rfl rfl (by kernel_rfl) Try.func6 (by kernel_rfl)
    (of_decide_eq_true (by kernel_rfl)) (by unfold Func.isWrapper; first | (rw [if_pos (by decide +kernel)]; kernel_rfl) | (rw [if_neg (by decide +kernel)]; exact ⟨rfl, rfl⟩))
    (fun os started H enc _ => lifted os started H enc)

theorem proved : Rows.QueueBackSaid := over
#print axioms proved
end Go.Proofs.Ytcfaciicljjpoaa.queueBack
