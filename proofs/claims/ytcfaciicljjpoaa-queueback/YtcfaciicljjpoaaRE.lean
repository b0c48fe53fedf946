/-
  The document's answer for queues: done, Set, Add.
-/
import Derived.Test.YtcfaciicljjpoaaRD
import Derived.Test.YtcfaciicljjpoaaRB
namespace Go.Proofs.Ytcfaciicljjpoaa
open Go.RowKit Go.Deep Go.Maps Go.Shelf
set_option linter.unusedVariables false

/-- Add. -/
theorem add_q (a : Option Addr) (len cap : Nat) (l : List Qu) (q : Qu) (w : World) (h : HoldsQ w a len cap l) (hok : ∀ x ∈ l, x.ok) (hq : q.ok) :
    Calls Try.prog 13 #[.slice a len cap, qv q] w fun e w' => ∃ v, e = .returned (.tuple #[v, .int .i64 (addE l q)]) ∧ AnsQ w.heap.size w' v (addR l q) ∧ Below w.heap.size w w' := by
  have hl := h.1
  by_cases hC : chkE l = 0
  · cases hX : hasQ l q.id
    · by_cases hF : len = 64
      · have E : addE l q = 10 := by unfold addE; rw [if_neg (by rw [hC]; decide), if_neg (by rw [hX]; decide), if_pos (by rw [hl]; exact hF)]
        refine (add_full a len cap l q w h hok hq hC hX hF).mono ?_
        rintro e w' ⟨rfl, hb⟩
        exact ⟨_, by rw [E], by unfold addR; rw [E]; exact AnsQ.nil _ _, hb⟩
      · cases hY : hasQ l q.par
        · have E : addE l q = 8 := by unfold addE; rw [if_neg (by rw [hC]; decide), if_neg (by rw [hX]; decide), if_neg (by rw [hl]; exact hF), if_pos hY]
          refine (add_none a len cap l q w h hok hq hC hX hF hY).mono ?_
          rintro e w' ⟨rfl, hb⟩
          exact ⟨_, by rw [E], by unfold addR; rw [E]; exact AnsQ.nil _ _, hb⟩
        · have E : addE l q = chkE (addM l q) := by unfold addE; rw [if_neg (by rw [hC]; decide), if_neg (by rw [hX]; decide), if_neg (by rw [hl]; exact hF), if_neg (by rw [hY]; decide)]
          by_cases hM : chkE (addM l q) = 0
          · refine (add_good a len cap l q w h hok hq hC hX hF hY hM).mono ?_
            rintro e w' ⟨⟨v, rfl, hv⟩, hb⟩
            refine ⟨_, by rw [E, hM], .inr ?_, hb⟩
            unfold addR
            rw [E, if_pos hM]
            have e1 : (addM l q).length = len + 1 := by unfold addM; rw [insQ_len (sp_le _ _), hl]
            rw [e1]
            exact hv
          · refine (add_bad a len cap l q w h hok hq hC hX hF hY hM).mono ?_
            rintro e w' ⟨rfl, hb⟩
            exact ⟨_, by rw [E], by unfold addR; rw [E, if_neg hM]; exact AnsQ.nil _ _, hb⟩
    · have E : addE l q = 9 := by unfold addE; rw [if_neg (by rw [hC]; decide), if_pos hX]
      refine (add_exists a len cap l q w h hok hq hC hX).mono ?_
      rintro e w' ⟨rfl, hb⟩
      exact ⟨_, by rw [E], by unfold addR; rw [E]; exact AnsQ.nil _ _, hb⟩
  · have E : addE l q = chkE l := by unfold addE; rw [if_pos hC]
    refine (add_list a len cap l q w h hok hq hC).mono ?_
    rintro e w' ⟨rfl, hb⟩
    exact ⟨_, by rw [E], by unfold addR; rw [E, if_neg hC]; exact AnsQ.nil _ _, hb⟩

set_option maxHeartbeats 1000000 in
theorem done_yes (a : Option Addr) (len cap : Nat) (l : List Qu) (w : World) (h : HoldsQ w a len cap l) (hE : chkE l = 0) :
    Calls Try.prog 47 #[.slice a len cap] w fun e w' => e = .returned (.tuple #[.slice a len cap, .int .i64 0]) ∧ Below w.heap.size w w' := by
  have H := hid (rcheckq_any a len cap l w h)
  rw [hE] at H
  clear h hE
  go_enter Try.func47, Try.ntmps47
  go_wp2_with fail
  refine H.out.mono ?_
  rintro e w1 ⟨rfl, hb1⟩
  go_wp2
  go_ret2
  exact ⟨rfl, hb1⟩
set_option maxHeartbeats 1000000 in
theorem done_no (a : Option Addr) (len cap : Nat) (l : List Qu) (w : World) (h : HoldsQ w a len cap l) (hE : chkE l ≠ 0) :
    Calls Try.prog 47 #[.slice a len cap] w fun e w' => e = .returned (.tuple #[.slice none 0 0, .int .i64 (chkE l)]) ∧ Below w.heap.size w w' := by
  have H := hid (rcheckq_any a len cap l w h)
  have t : (chkE l != 0) = true := by simpa using hE
  clear h hE
  generalize chkE l = E at *
  go_enter Try.func47, Try.ntmps47
  go_wp2_with fail
  refine H.out.mono ?_
  rintro e w1 ⟨rfl, hb1⟩
  go_wp2
  go_ret2
  exact ⟨rfl, hb1⟩

set_option maxRecDepth 100000 in
set_option maxHeartbeats 4000000 in
theorem rset_list (a : Option Addr) (len cap : Nat) (l : List Qu) (q : Qu) (w : World) (h : HoldsQ w a len cap l) (hE : chkE l ≠ 0) :
    Calls Try.prog 16 #[.slice a len cap, qv q] w fun e w' => e = .returned (.tuple #[.slice none 0 0, .int .i64 (chkE l)]) ∧ Below w.heap.size w w' := by
  have HL := hid h.1
  have hcap0 := h.2.1
  have hcm := h.2.2.1
  have HC := hid (rcheckq_any a len cap l (w.alloc (boxQ q)) (h.below (by repeat (first | exact Below.refl _ _ | assumption | refine Below.alloc ?_ (by simp <;> omega) _ | refine Below.setCell ?_ (by simp <;> omega) _ | refine Below.drew ?_ | refine below_drewN ?_ _))))
  have HH := hid h
  clear h
  have t : (chkE l != 0) = true := by simpa using hE
  clear hE
  generalize chkE l = E at *
  obtain ⟨q1, q2, q3, q4, q5, q6, q7⟩ := q
  try simp only at *
  go_enter Try.func16, Try.ntmps16
  go_wp2_with fail
  refine HC.out.mono ?_
  rintro e w1 ⟨rfl, hb1⟩
  have c0 := keepc hb1 (a := ⟨w.heap.size, 0, none⟩) (v := .int .i64 q1) (by simp [go_sem])
  have c1 := keepc hb1 (a := ⟨w.heap.size, 1, none⟩) (v := .int .i64 q2) (by simp [go_sem])
  have c2 := keepc hb1 (a := ⟨w.heap.size, 2, none⟩) (v := .int .i64 q3) (by simp [go_sem])
  have c3 := keepc hb1 (a := ⟨w.heap.size, 3, none⟩) (v := .int .i64 q4) (by simp [go_sem])
  have c4 := keepc hb1 (a := ⟨w.heap.size, 4, none⟩) (v := .int .i64 q5) (by simp [go_sem])
  have c5 := keepc hb1 (a := ⟨w.heap.size, 5, none⟩) (v := .int .i64 q6) (by simp [go_sem])
  have c6 := keepc hb1 (a := ⟨w.heap.size, 6, none⟩) (v := .int .i64 q7) (by simp [go_sem])
  have hB1 : Below w.heap.size w w1 := Below.trans (by repeat (first | exact Below.refl _ _ | assumption | refine Below.alloc ?_ (by first | omega | (simp <;> omega)) _ | refine Below.setCell ?_ (by first | omega | (simp <;> omega)) _ | refine Below.drew ?_ | refine below_drewN ?_ _)) (hb1.mono (by simp))
  have H1 := hid (HH.out.below hB1)
  clear hb1
  go_wp2_with fail
  refine (place_any a len cap l q1 w1 H1.out).mono ?_
  rintro e w2 ⟨rfl, hb2⟩
  have hB2 := hB1.trans (hb2.mono hB1.size)
  generalize plI l q1 = P at *
  clear hb2
  go_wp2
  go_ret2
  exact ⟨rfl, hB2⟩

set_option maxRecDepth 100000 in
set_option maxHeartbeats 4000000 in
theorem rset_none (a : Option Addr) (len cap : Nat) (l : List Qu) (q : Qu) (w : World) (h : HoldsQ w a len cap l) (hC : chkE l = 0) (hX : hasQ l q.id = false) :
    Calls Try.prog 16 #[.slice a len cap, qv q] w fun e w' => e = .returned (.tuple #[.slice none 0 0, .int .i64 (8)]) ∧ Below w.heap.size w w' := by
  have HL := hid h.1
  have hcap0 := h.2.1
  have hcm := h.2.2.1
  have HC := hid (rcheckq_any a len cap l (w.alloc (boxQ q)) (h.below (by repeat (first | exact Below.refl _ _ | assumption | refine Below.alloc ?_ (by simp <;> omega) _ | refine Below.setCell ?_ (by simp <;> omega) _ | refine Below.drew ?_ | refine below_drewN ?_ _))))
  have HH := hid h
  clear h
  have PI : Hid (plI l q.id = -1) := by unfold Hid plI; rw [if_neg]; intro h; unfold hasQ at hX; rw [decide_eq_true h] at hX; cases hX
  rw [hC] at HC
  clear hC hX
  obtain ⟨q1, q2, q3, q4, q5, q6, q7⟩ := q
  try simp only at *
  go_enter Try.func16, Try.ntmps16
  go_wp2_with fail
  refine HC.out.mono ?_
  rintro e w1 ⟨rfl, hb1⟩
  have c0 := keepc hb1 (a := ⟨w.heap.size, 0, none⟩) (v := .int .i64 q1) (by simp [go_sem])
  have c1 := keepc hb1 (a := ⟨w.heap.size, 1, none⟩) (v := .int .i64 q2) (by simp [go_sem])
  have c2 := keepc hb1 (a := ⟨w.heap.size, 2, none⟩) (v := .int .i64 q3) (by simp [go_sem])
  have c3 := keepc hb1 (a := ⟨w.heap.size, 3, none⟩) (v := .int .i64 q4) (by simp [go_sem])
  have c4 := keepc hb1 (a := ⟨w.heap.size, 4, none⟩) (v := .int .i64 q5) (by simp [go_sem])
  have c5 := keepc hb1 (a := ⟨w.heap.size, 5, none⟩) (v := .int .i64 q6) (by simp [go_sem])
  have c6 := keepc hb1 (a := ⟨w.heap.size, 6, none⟩) (v := .int .i64 q7) (by simp [go_sem])
  have hB1 : Below w.heap.size w w1 := Below.trans (by repeat (first | exact Below.refl _ _ | assumption | refine Below.alloc ?_ (by first | omega | (simp <;> omega)) _ | refine Below.setCell ?_ (by first | omega | (simp <;> omega)) _ | refine Below.drew ?_ | refine below_drewN ?_ _)) (hb1.mono (by simp))
  have H1 := hid (HH.out.below hB1)
  clear hb1
  go_wp2_with fail
  refine (place_any a len cap l q1 w1 H1.out).mono ?_
  rintro e w2 ⟨rfl, hb2⟩
  rw [PI.out]
  have hB2 := hB1.trans (hb2.mono hB1.size)
  clear hb2
  go_wp2
  go_ret2
  exact ⟨rfl, hB2⟩

set_option maxRecDepth 100000 in
set_option maxHeartbeats 4000000 in
theorem rset_form (a : Option Addr) (len cap : Nat) (l : List Qu) (q : Qu) (w : World) (h : HoldsQ w a len cap l) (hC : chkE l = 0) (hX : hasQ l q.id = true) (hP : (qa l (pl l q.id)).par ≠ q.par) :
    Calls Try.prog 16 #[.slice a len cap, qv q] w fun e w' => e = .returned (.tuple #[.slice none 0 0, .int .i64 (4)]) ∧ Below w.heap.size w w' := by
  have HL := hid h.1
  have hcap0 := h.2.1
  have hcm := h.2.2.1
  have HC := hid (rcheckq_any a len cap l (w.alloc (boxQ q)) (h.below (by repeat (first | exact Below.refl _ _ | assumption | refine Below.alloc ?_ (by simp <;> omega) _ | refine Below.setCell ?_ (by simp <;> omega) _ | refine Below.drew ?_ | refine below_drewN ?_ _))))
  have HH := hid h
  clear h
  have TP : Hid (((qa l (pl l q.id)).par != q.par) = true) := by simpa [Hid] using hP
  clear hP
  have PP : pl l q.id < l.length := of_decide_eq_true hX
  have PI : Hid (plI l q.id = (pl l q.id : Int)) := by unfold Hid plI; rw [if_pos PP]
  have hpl : 0 < len := by have := HL.out; omega
  obtain ⟨b, off, rfl, R⟩ := HH.out.row hpl
  have HR := hid R
  have hle : len ≤ 64 := by rw [← HL.out]; exact (chkE_ok.1 hC).1
  rw [HL.out] at PP
  rw [hC] at HC
  clear hC hX R
  obtain ⟨q1, q2, q3, q4, q5, q6, q7⟩ := q
  try simp only at *
  go_enter Try.func16, Try.ntmps16
  go_wp2_with fail
  refine HC.out.mono ?_
  rintro e w1 ⟨rfl, hb1⟩
  have c0 := keepc hb1 (a := ⟨w.heap.size, 0, none⟩) (v := .int .i64 q1) (by simp [go_sem])
  have c1 := keepc hb1 (a := ⟨w.heap.size, 1, none⟩) (v := .int .i64 q2) (by simp [go_sem])
  have c2 := keepc hb1 (a := ⟨w.heap.size, 2, none⟩) (v := .int .i64 q3) (by simp [go_sem])
  have c3 := keepc hb1 (a := ⟨w.heap.size, 3, none⟩) (v := .int .i64 q4) (by simp [go_sem])
  have c4 := keepc hb1 (a := ⟨w.heap.size, 4, none⟩) (v := .int .i64 q5) (by simp [go_sem])
  have c5 := keepc hb1 (a := ⟨w.heap.size, 5, none⟩) (v := .int .i64 q6) (by simp [go_sem])
  have c6 := keepc hb1 (a := ⟨w.heap.size, 6, none⟩) (v := .int .i64 q7) (by simp [go_sem])
  have hB1 : Below w.heap.size w w1 := Below.trans (by repeat (first | exact Below.refl _ _ | assumption | refine Below.alloc ?_ (by first | omega | (simp <;> omega)) _ | refine Below.setCell ?_ (by first | omega | (simp <;> omega)) _ | refine Below.drew ?_ | refine below_drewN ?_ _)) (hb1.mono (by simp))
  have H1 := hid (HH.out.below hB1)
  clear hb1
  go_wp2_with fail
  refine (place_any (some ⟨b, off, none⟩) len cap l q1 w1 H1.out).mono ?_
  rintro e w2 ⟨rfl, hb2⟩
  rw [PI.out]
  have hB2 := hB1.trans (hb2.mono hB1.size)
  have R2 := hid (HR.out.below hB2)
  obtain ⟨e0, e1, e2, e3, e4, e5, e6⟩ := R2.out.2 (pl l q1) (by rw [HL.out]; exact PP)
  have d0 := keepc hb2 c0
  have d1 := keepc hb2 c1
  have d2 := keepc hb2 c2
  have d3 := keepc hb2 c3
  have d4 := keepc hb2 c4
  have d5 := keepc hb2 c5
  have d6 := keepc hb2 c6
  clear hb2 c0 c1 c2 c3 c4 c5 c6 e0 e2 e3 e4 e5 e6
  have tp := TP.out
  generalize (qa l (pl l q1)).par = rp at *
  have pa : (0 : Int) ≤ (pl l q1 : Int) := by omega
  have pb : (pl l q1 : Int) < (len : Int) := by omega
  have tn : decide ((pl l q1 : Int) < 0) = false := by simp
  generalize pl l q1 = pp at *
  go_wp2_with fail
  go_quiet (fail)
  go_wp2
  go_ret2
  exact ⟨rfl, below_drewN hB2 _⟩

set_option maxRecDepth 100000 in
set_option maxHeartbeats 4000000 in
theorem rset_last (a : Option Addr) (len cap : Nat) (l : List Qu) (q : Qu) (w : World) (h : HoldsQ w a len cap l) (hC : chkE l = 0) (hX : hasQ l q.id = true) (hP : (qa l (pl l q.id)).par = q.par) :
    Calls Try.prog 16 #[.slice a len cap, qv q] w fun e w' => (∃ v, e = .returned (.tuple #[v, .int .i64 (chkE (setM l q))]) ∧ AnsQ w.heap.size w' v (setA l q)) ∧ Below w.heap.size w w' := by
  have HL := hid h.1
  have hcap0 := h.2.1
  have hcm := h.2.2.1
  have HC := hid (rcheckq_any a len cap l (w.alloc (boxQ q)) (h.below (by repeat (first | exact Below.refl _ _ | assumption | refine Below.alloc ?_ (by simp <;> omega) _ | refine Below.setCell ?_ (by simp <;> omega) _ | refine Below.drew ?_ | refine below_drewN ?_ _))))
  have HH := hid h
  clear h
  have TP : Hid (((qa l (pl l q.id)).par != q.par) = false) := by simpa [Hid] using hP
  clear hP
  have PP : pl l q.id < l.length := of_decide_eq_true hX
  have PI : Hid (plI l q.id = (pl l q.id : Int)) := by unfold Hid plI; rw [if_pos PP]
  have hpl : 0 < len := by have := HL.out; omega
  obtain ⟨b, off, rfl, R⟩ := HH.out.row hpl
  have HR := hid R
  have hle : len ≤ 64 := by rw [← HL.out]; exact (chkE_ok.1 hC).1
  rw [HL.out] at PP
  rw [hC] at HC
  clear hC hX R
  obtain ⟨q1, q2, q3, q4, q5, q6, q7⟩ := q
  try simp only at *
  go_enter Try.func16, Try.ntmps16
  go_wp2_with fail
  refine HC.out.mono ?_
  rintro e w1 ⟨rfl, hb1⟩
  have c0 := keepc hb1 (a := ⟨w.heap.size, 0, none⟩) (v := .int .i64 q1) (by simp [go_sem])
  have c1 := keepc hb1 (a := ⟨w.heap.size, 1, none⟩) (v := .int .i64 q2) (by simp [go_sem])
  have c2 := keepc hb1 (a := ⟨w.heap.size, 2, none⟩) (v := .int .i64 q3) (by simp [go_sem])
  have c3 := keepc hb1 (a := ⟨w.heap.size, 3, none⟩) (v := .int .i64 q4) (by simp [go_sem])
  have c4 := keepc hb1 (a := ⟨w.heap.size, 4, none⟩) (v := .int .i64 q5) (by simp [go_sem])
  have c5 := keepc hb1 (a := ⟨w.heap.size, 5, none⟩) (v := .int .i64 q6) (by simp [go_sem])
  have c6 := keepc hb1 (a := ⟨w.heap.size, 6, none⟩) (v := .int .i64 q7) (by simp [go_sem])
  have hB1 : Below w.heap.size w w1 := Below.trans (by repeat (first | exact Below.refl _ _ | assumption | refine Below.alloc ?_ (by first | omega | (simp <;> omega)) _ | refine Below.setCell ?_ (by first | omega | (simp <;> omega)) _ | refine Below.drew ?_ | refine below_drewN ?_ _)) (hb1.mono (by simp))
  have H1 := hid (HH.out.below hB1)
  clear hb1
  go_wp2_with fail
  refine (place_any (some ⟨b, off, none⟩) len cap l q1 w1 H1.out).mono ?_
  rintro e w2 ⟨rfl, hb2⟩
  rw [PI.out]
  have hB2 := hB1.trans (hb2.mono hB1.size)
  have R2 := hid (HR.out.below hB2)
  obtain ⟨e0, e1, e2, e3, e4, e5, e6⟩ := R2.out.2 (pl l q1) (by rw [HL.out]; exact PP)
  have d0 := keepc hb2 c0
  have d1 := keepc hb2 c1
  have d2 := keepc hb2 c2
  have d3 := keepc hb2 c3
  have d4 := keepc hb2 c4
  have d5 := keepc hb2 c5
  have d6 := keepc hb2 c6
  clear hb2 c0 c1 c2 c3 c4 c5 c6 e0 e2 e3 e4 e5 e6
  have tp := TP.out
  generalize (qa l (pl l q1)).par = rp at *
  have pa : (0 : Int) ≤ (pl l q1 : Int) := by omega
  have pb : (pl l q1 : Int) < (len : Int) := by omega
  have tn : decide ((pl l q1 : Int) < 0) = false := by simp
  have EM : Hid (setM l ⟨q1, q2, q3, q4, q5, q6, q7⟩ = l.set (pl l q1) ⟨q1, q2, q3, q4, q5, q6, q7⟩) := rfl
  generalize pl l q1 = pp at *
  have H2 := hid (HH.out.below hB2)
  go_wp2_with fail
  go_quiet (fail)
  generalize hnd : World.drewN w2 _ = nd
  have hB3 : Below w2.heap.size w2 nd := by rw [← hnd]; exact below_drewN (Below.refl _ _) _
  have hB4 := hB2.trans (hB3.mono hB2.size)
  have h3 := hid ((H2.out.below hB3).below ((Below.refl _ nd).alloc (Nat.le_refl _) (.cells #[] 26)))
  have o3 := hid (OwnE.lit 26 7 Qu.cs nd)
  have f0 := keepc hB3 d0
  have f1 := keepc hB3 d1
  have f2 := keepc hB3 d2
  have f3 := keepc hB3 d3
  have f4 := keepc hB3 d4
  have f5 := keepc hB3 d5
  have f6 := keepc hB3 d6
  have ltq := cell_lt f0
  simp only at ltq
  clear d0 d1 d2 d3 d4 d5 d6 e1 hnd
  go_wp2_with (at_builtin; refine cat_ownE 22 26 _ 56 Qu.cs_len Qu.one Try.underlying22 infoQ rfl (by decide) _ rfl (.tmp 33) (.tmp 34) rfl nd.heap.size 0 _ [] rfl o3.out (by simp) (some ⟨b, off, none⟩) len cap l rfl h3.out (by omega) (by omega) ?_)
  intro v4 w4 O4 hb4 _
  obtain ⟨g, c, rfl⟩ := own_pos O4 hpl
  have hB5 : Below nd.heap.size nd w4 := Below.trans ((Below.refl _ nd).alloc (Nat.le_refl _) _) hb4
  have hB6 := hB4.trans (hB5.mono hB4.size)
  have m0 := keepc hB5 f0
  have m1 := keepc hB5 f1
  have m2 := keepc hB5 f2
  have m3 := keepc hB5 f3
  have m4 := keepc hB5 f4
  have m5 := keepc hB5 f5
  have m6 := keepc hB5 f6
  obtain ⟨_, hso, hfo, _, hno, hmo, hgo, hlo⟩ := own_cells O4
  have SO := hid (set_own (p := pp) (q := ⟨q1, q2, q3, q4, q5, q6, q7⟩) O4 PP)
  have gne : g ≠ w.heap.size := by omega
  obtain ⟨z0, x0⟩ := Option.isSome_iff_exists.1 (hso (pp * 7 + 0) (by omega))
  have y0 := hfo (pp * 7 + 0)
  obtain ⟨z1, x1⟩ := Option.isSome_iff_exists.1 (hso (pp * 7 + 1) (by omega))
  have y1 := hfo (pp * 7 + 1)
  obtain ⟨z2, x2⟩ := Option.isSome_iff_exists.1 (hso (pp * 7 + 2) (by omega))
  have y2 := hfo (pp * 7 + 2)
  obtain ⟨z3, x3⟩ := Option.isSome_iff_exists.1 (hso (pp * 7 + 3) (by omega))
  have y3 := hfo (pp * 7 + 3)
  obtain ⟨z4, x4⟩ := Option.isSome_iff_exists.1 (hso (pp * 7 + 4) (by omega))
  have y4 := hfo (pp * 7 + 4)
  obtain ⟨z5, x5⟩ := Option.isSome_iff_exists.1 (hso (pp * 7 + 5) (by omega))
  have y5 := hfo (pp * 7 + 5)
  obtain ⟨z6, x6⟩ := Option.isSome_iff_exists.1 (hso (pp * 7 + 6) (by omega))
  have y6 := hfo (pp * 7 + 6)
  simp only [Nat.add_zero] at x0 y0
  have HBS := hid (show Below w.heap.size w (w4.setCells g (pp * 7) (Qu.cs ⟨q1, q2, q3, q4, q5, q6, q7⟩)) from hB6.trans (SO.out.2.1.mono hB4.size))
  clear O4 hb4 hso hfo f0 f1 f2 f3 f4 f5 f6 h3 o3
  go_wp2_with fail
  by_cases HM : chkE (l.set pp ⟨q1, q2, q3, q4, q5, q6, q7⟩) = 0
  · have CH := hid (done_yes (some ⟨g, 0, none⟩) len c (l.set pp ⟨q1, q2, q3, q4, q5, q6, q7⟩) _ SO.out.1 HM)
    have EN : Hid (chkE (l.set pp ⟨q1, q2, q3, q4, q5, q6, q7⟩) = 0) := HM
    clear HM
    refine CH.out.mono ?_
    rintro e w5 ⟨rfl, hb5⟩
    have hB7 : Below w.heap.size w w5 := HBS.out.trans (hb5.mono HBS.out.size)
    have H5 := hid (SO.out.1.below hb5)
    clear hb5
    go_wp2
    go_ret2
    unfold setA
    rw [EM.out, EN.out]
    refine ⟨⟨_, rfl, .inr ?_⟩, hB7⟩
    rw [if_pos rfl, List.length_set, HL.out]
    exact ⟨g, c, rfl, Nat.le_trans hB4.size SO.out.2.2, H5.out⟩
  · have CH := hid (done_no (some ⟨g, 0, none⟩) len c (l.set pp ⟨q1, q2, q3, q4, q5, q6, q7⟩) _ SO.out.1 HM)
    have EN : Hid (¬ chkE (l.set pp ⟨q1, q2, q3, q4, q5, q6, q7⟩) = 0) := HM
    clear HM
    refine CH.out.mono ?_
    rintro e w5 ⟨rfl, hb5⟩
    have hB7 : Below w.heap.size w w5 := HBS.out.trans (hb5.mono HBS.out.size)
    clear hb5
    obtain ⟨E, hE⟩ : ∃ E, E = chkE (l.set pp ⟨q1, q2, q3, q4, q5, q6, q7⟩) := ⟨_, rfl⟩
    rw [← hE] at EN ⊢
    have HE := hid hE
    clear hE
    go_wp2
    go_ret2
    unfold setA
    rw [EM.out, ← HE.out]
    exact ⟨⟨_, rfl, by rw [if_neg EN.out]; exact AnsQ.nil _ _⟩, hB7⟩

theorem rset_any (a : Option Addr) (len cap : Nat) (l : List Qu) (q : Qu) (w : World) (h : HoldsQ w a len cap l) :
    Calls Try.prog 16 #[.slice a len cap, qv q] w fun e w' => ∃ v, e = .returned (.tuple #[v, .int .i64 (setE l q)]) ∧ AnsQ w.heap.size w' v (setR l q) ∧ Below w.heap.size w w' := by
  by_cases hC : chkE l = 0
  · cases hX : hasQ l q.id
    · have E : setE l q = 8 := by unfold setE; rw [if_neg (by rw [hC]; decide), if_pos hX]
      refine (rset_none a len cap l q w h hC hX).mono ?_
      rintro e w' ⟨rfl, hb⟩
      exact ⟨_, by rw [E], by unfold setR; rw [E]; exact AnsQ.nil _ _, hb⟩
    · by_cases hP : (qa l (pl l q.id)).par = q.par
      · have E : setE l q = chkE (setM l q) := by unfold setE; rw [if_neg (by rw [hC]; decide), if_neg (by rw [hX]; decide), if_neg (by simpa using hP)]
        refine (rset_last a len cap l q w h hC hX hP).mono ?_
        rintro e w' ⟨⟨v, rfl, hv⟩, hb⟩
        exact ⟨_, by rw [E], by unfold setR; rw [E]; unfold setA at hv; exact hv, hb⟩
      · have E : setE l q = 4 := by unfold setE; rw [if_neg (by rw [hC]; decide), if_neg (by rw [hX]; decide), if_pos hP]
        refine (rset_form a len cap l q w h hC hX hP).mono ?_
        rintro e w' ⟨rfl, hb⟩
        exact ⟨_, by rw [E], by unfold setR; rw [E]; exact AnsQ.nil _ _, hb⟩
  · have E : setE l q = chkE l := by unfold setE; rw [if_pos hC]
    refine (rset_list a len cap l q w h hC).mono ?_
    rintro e w' ⟨rfl, hb⟩
    exact ⟨_, by rw [E], by unfold setR; rw [E, if_neg hC]; exact AnsQ.nil _ _, hb⟩

end Go.Proofs.Ytcfaciicljjpoaa
