/-
  Contracts of queue: Set.
-/
import Derived.Test.YtcfaciicljjpoaaQP
namespace Go.Proofs.Ytcfaciicljjpoaa
open Go.RowKit Go.Deep Go.Maps Go.Shelf
set_option linter.unusedVariables false

/-- What Set answers. -/
def setM (l : List Qu) (q : Qu) : List Qu := l.set (pl l q.id) q
def setE (l : List Qu) (q : Qu) : Int := if chkE l ≠ 0 then chkE l else if hasQ l q.id = false then 8 else if (qa l (pl l q.id)).par ≠ q.par then 4 else chkE (setM l q)
def setR (l : List Qu) (q : Qu) : List Qu := if setE l q = 0 then setM l q else []
def setA (l : List Qu) (q : Qu) : List Qu := if chkE (setM l q) = 0 then setM l q else []
theorem setM_ok {l : List Qu} {q : Qu} {p : Nat} (h : ∀ x ∈ l, x.ok) (hq : q.ok) : ∀ x ∈ l.set p q, x.ok := by
  intro x hx
  rcases List.mem_or_eq_of_mem_set hx with hx | rfl
  · exact h x hx
  · exact hq

section
variable {base g n cap p : Nat} {l : List Qu} {q : Qu} {w : World}
/-- A queue of a row of one's own, replaced. -/
theorem set_own (h : OwnQ base w (.slice (some ⟨g, 0, none⟩) n cap) n l) (hp : p < n) : HoldsQ (w.setCells g (p * 7) q.cs) (some ⟨g, 0, none⟩) n cap (l.set p q) ∧ Below base w (w.setCells g (p * 7) q.cs) ∧ base ≤ g := by
  obtain ⟨_, hs, hf, hc, hn, hm, hg, hlt⟩ := own_cells h
  refine ⟨⟨by rw [List.length_set]; exact h.1, hn, hm, (fun e => by cases e), fun _ => ⟨g, 0, rfl, ?_, fun j x hx i v hv => ?_⟩⟩, below_setCells (Below.refl _ _) hg, hg⟩
  · exact Nat.lt_of_lt_of_le hlt (below_setCells (Below.refl 0 w) (Nat.zero_le _)).size
  · have hi : i < 7 := by have := (List.getElem?_eq_some_iff.1 hv).1; rw [Qu.cs_len] at this; exact this
    have hl := h.1
    rw [Nat.zero_add]
    by_cases e : j = p
    · subst e
      rw [List.getElem?_set_self (by omega)] at hx
      cases hx
      obtain ⟨h1, h2⟩ := List.getElem?_eq_some_iff.1 hv
      rw [World.cell?_setCells_in g q.cs (j * 7) w (fun i hi => hs _ (by rw [Qu.cs_len] at hi; omega)) i h1, h2]
    · rw [List.getElem?_set_ne (by omega)] at hx
      rw [World.cell?_setCells_out g _ _ _ _ (fun _ _ => by show j * 7 + i < p * 7 ∨ p * 7 + q.cs.length ≤ j * 7 + i; rw [Qu.cs_len]; omega)]
      exact hc _ _ (flat_get Qu.cs_len l j x i v hx hv)
end

set_option maxRecDepth 100000 in
set_option maxHeartbeats 4000000 in
theorem set_list (a : Option Addr) (len cap : Nat) (l : List Qu) (q : Qu) (w : World) (h : HoldsQ w a len cap l) (hok : ∀ x ∈ l, x.ok) (hq : q.ok) (hE : chkE l ≠ 0) :
    Calls Try.prog 15 #[.slice a len cap, qv q] w fun e w' => e = .returned (.tuple #[.slice none 0 0, .int .i64 (chkE l)]) ∧ Below w.heap.size w w' := by
  have HH := hid h
  have HO := hid hok
  have HQ := hid hq
  have HL := hid h.1
  have hcap0 := h.2.1
  have HR := hid (read_any a len cap l (w.alloc (boxQ q)) (h.below (by repeat (first | exact Below.refl _ _ | assumption | refine Below.alloc ?_ (by simp <;> omega) _ | refine Below.setCell ?_ (by simp <;> omega) _ | refine Below.drew ?_ | refine below_drewN ?_ _))) hok)
  clear h hok hq
  have t : (chkE l != 0) = true := by simpa using hE
  have HE := hid hE
  clear hE
  generalize chkE l = E at *
  obtain ⟨q1, q2, q3, q4, q5, q6, q7⟩ := q
  go_enter Try.func15, Try.ntmps15
  go_wp2_with fail
  refine HR.out.mono ?_
  rintro e w1 ⟨h1 | h1, hb1⟩
  · exact absurd h1.1 HE.out
  · obtain ⟨_, rfl⟩ := h1
    have hB1 : Below w.heap.size w w1 := Below.trans (by repeat (first | exact Below.refl _ _ | assumption | refine Below.alloc ?_ (by first | omega | (simp <;> omega)) _ | refine Below.setCell ?_ (by first | omega | (simp <;> omega)) _ | refine Below.drew ?_ | refine below_drewN ?_ _)) (hb1.mono (by simp))
    have hs1 := hB1.size
    clear hb1 HR
    go_wp2
    go_ret2
    exact ⟨rfl, (by repeat (first | exact Below.refl _ _ | assumption | refine Below.alloc ?_ (by first | omega | (simp <;> omega)) _ | refine Below.setCell ?_ (by first | omega | (simp <;> omega)) _ | refine Below.drew ?_ | refine below_drewN ?_ _))⟩

set_option maxRecDepth 100000 in
set_option maxHeartbeats 4000000 in
theorem set_none (a : Option Addr) (len cap : Nat) (l : List Qu) (q : Qu) (w : World) (h : HoldsQ w a len cap l) (hok : ∀ x ∈ l, x.ok) (hq : q.ok) (hC : chkE l = 0) (hX : hasQ l q.id = false) :
    Calls Try.prog 15 #[.slice a len cap, qv q] w fun e w' => e = .returned (.tuple #[.slice none 0 0, .int .i64 (8)]) ∧ Below w.heap.size w w' := by
  have HH := hid h
  have HO := hid hok
  have HQ := hid hq
  have HL := hid h.1
  have hcap0 := h.2.1
  have HR := hid (read_any a len cap l (w.alloc (boxQ q)) (h.below (by repeat (first | exact Below.refl _ _ | assumption | refine Below.alloc ?_ (by simp <;> omega) _ | refine Below.setCell ?_ (by simp <;> omega) _ | refine Below.drew ?_ | refine below_drewN ?_ _))) hok)
  clear h hok hq
  have HC := hid hC
  have HX := hid hX
  clear hC hX
  obtain ⟨q1, q2, q3, q4, q5, q6, q7⟩ := q
  simp only at *
  go_enter Try.func15, Try.ntmps15
  go_wp2_with fail
  refine HR.out.mono ?_
  rintro e w1 ⟨h1 | h1, hb1⟩
  · obtain ⟨_, lb, off, mb, rfl, rfl, hT⟩ := h1
    have T1 := hid hT
    clear hT
    have c0 := keepc hb1 (a := ⟨w.heap.size, 0, none⟩) (v := .int .i64 q1) (by simp [go_sem])
    have c1 := keepc hb1 (a := ⟨w.heap.size, 1, none⟩) (v := .int .i64 q2) (by simp [go_sem])
    have c2 := keepc hb1 (a := ⟨w.heap.size, 2, none⟩) (v := .int .i64 q3) (by simp [go_sem])
    have c3 := keepc hb1 (a := ⟨w.heap.size, 3, none⟩) (v := .int .i64 q4) (by simp [go_sem])
    have c4 := keepc hb1 (a := ⟨w.heap.size, 4, none⟩) (v := .int .i64 q5) (by simp [go_sem])
    have c5 := keepc hb1 (a := ⟨w.heap.size, 5, none⟩) (v := .int .i64 q6) (by simp [go_sem])
    have c6 := keepc hb1 (a := ⟨w.heap.size, 6, none⟩) (v := .int .i64 q7) (by simp [go_sem])
    have hltq := cell_lt c0
    simp only at hltq
    have hB1 : Below w.heap.size w w1 := Below.trans (by repeat (first | exact Below.refl _ _ | assumption | refine Below.alloc ?_ (by first | omega | (simp <;> omega)) _ | refine Below.setCell ?_ (by first | omega | (simp <;> omega)) _ | refine Below.drew ?_ | refine below_drewN ?_ _)) (hb1.mono (by simp))
    have hs1 := hB1.size
    clear hb1 HR
    go_wp2_with fail
    refine (has_any lb off len cap mb l q1 _ (T1.out.below (by repeat (first | exact Below.refl _ _ | assumption | refine Below.alloc ?_ (by first | omega | (simp <;> omega)) _ | refine Below.setCell ?_ (by first | omega | (simp <;> omega)) _ | refine Below.drew ?_ | refine below_drewN ?_ _))) HQ.out.1).mono ?_
    rintro e w2 ⟨rfl, hb2⟩
    rw [HX.out]
    have hB2 : Below w.heap.size w w2 := (hB1.alloc hB1.size (.cells #[.slice (some ⟨lb, off, none⟩) len cap, .map (some mb)] 56)).trans (hb2.mono (by simp; omega))
    clear hb2
    go_wp2
    go_ret2
    exact ⟨rfl, hB2⟩
  · exact absurd HC.out h1.1

set_option maxRecDepth 100000 in
set_option maxHeartbeats 4000000 in
theorem set_form (a : Option Addr) (len cap : Nat) (l : List Qu) (q : Qu) (w : World) (h : HoldsQ w a len cap l) (hok : ∀ x ∈ l, x.ok) (hq : q.ok) (hC : chkE l = 0) (hX : hasQ l q.id = true) (hP : (qa l (pl l q.id)).par ≠ q.par) :
    Calls Try.prog 15 #[.slice a len cap, qv q] w fun e w' => e = .returned (.tuple #[.slice none 0 0, .int .i64 (4)]) ∧ Below w.heap.size w w' := by
  have HH := hid h
  have HO := hid hok
  have HQ := hid hq
  have HL := hid h.1
  have hcap0 := h.2.1
  have HR := hid (read_any a len cap l (w.alloc (boxQ q)) (h.below (by repeat (first | exact Below.refl _ _ | assumption | refine Below.alloc ?_ (by simp <;> omega) _ | refine Below.setCell ?_ (by simp <;> omega) _ | refine Below.drew ?_ | refine below_drewN ?_ _))) hok)
  clear h hok hq
  have HC := hid hC
  have HX := hid hX
  have TP : Hid (((qa l (pl l q.id)).par != q.par) = true) := by simpa [Hid] using hP
  clear hC hX hP
  obtain ⟨q1, q2, q3, q4, q5, q6, q7⟩ := q
  simp only at *
  go_enter Try.func15, Try.ntmps15
  go_wp2_with fail
  refine HR.out.mono ?_
  rintro e w1 ⟨h1 | h1, hb1⟩
  · obtain ⟨_, lb, off, mb, rfl, rfl, hT⟩ := h1
    have T1 := hid hT
    clear hT
    have c0 := keepc hb1 (a := ⟨w.heap.size, 0, none⟩) (v := .int .i64 q1) (by simp [go_sem])
    have c1 := keepc hb1 (a := ⟨w.heap.size, 1, none⟩) (v := .int .i64 q2) (by simp [go_sem])
    have c2 := keepc hb1 (a := ⟨w.heap.size, 2, none⟩) (v := .int .i64 q3) (by simp [go_sem])
    have c3 := keepc hb1 (a := ⟨w.heap.size, 3, none⟩) (v := .int .i64 q4) (by simp [go_sem])
    have c4 := keepc hb1 (a := ⟨w.heap.size, 4, none⟩) (v := .int .i64 q5) (by simp [go_sem])
    have c5 := keepc hb1 (a := ⟨w.heap.size, 5, none⟩) (v := .int .i64 q6) (by simp [go_sem])
    have c6 := keepc hb1 (a := ⟨w.heap.size, 6, none⟩) (v := .int .i64 q7) (by simp [go_sem])
    have hltq := cell_lt c0
    simp only at hltq
    have hB1 : Below w.heap.size w w1 := Below.trans (by repeat (first | exact Below.refl _ _ | assumption | refine Below.alloc ?_ (by first | omega | (simp <;> omega)) _ | refine Below.setCell ?_ (by first | omega | (simp <;> omega)) _ | refine Below.drew ?_ | refine below_drewN ?_ _)) (hb1.mono (by simp))
    have hs1 := hB1.size
    clear hb1 HR
    go_wp2_with fail
    refine (has_any lb off len cap mb l q1 _ (T1.out.below (by repeat (first | exact Below.refl _ _ | assumption | refine Below.alloc ?_ (by first | omega | (simp <;> omega)) _ | refine Below.setCell ?_ (by first | omega | (simp <;> omega)) _ | refine Below.drew ?_ | refine below_drewN ?_ _))) HQ.out.1).mono ?_
    rintro e w2 ⟨rfl, hb2⟩
    rw [HX.out]
    have hB2 : Below w.heap.size w w2 := (hB1.alloc hB1.size (.cells #[.slice (some ⟨lb, off, none⟩) len cap, .map (some mb)] 56)).trans (hb2.mono (by simp; omega))
    have T2 := hid (T1.out.below (Below.trans ((Below.refl _ w1).alloc (Nat.le_refl _) (.cells #[.slice (some ⟨lb, off, none⟩) len cap, .map (some mb)] 56)) (hb2.mono (by simp))))
    have t0 := keepc hb2 (a := ⟨w1.heap.size, 0, none⟩) (v := .slice (some ⟨lb, off, none⟩) len cap) (by simp [go_sem])
    have t1 := keepc hb2 (a := ⟨w1.heap.size, 1, none⟩) (v := .map (some mb)) (by simp [go_sem])
    have d0 := keepc hb2 (a := ⟨w.heap.size, 0, none⟩) (v := .int .i64 q1) (by simp [go_sem, c0, hltq])
    have d1 := keepc hb2 (a := ⟨w.heap.size, 1, none⟩) (v := .int .i64 q2) (by simp [go_sem, c1, hltq])
    have d2 := keepc hb2 (a := ⟨w.heap.size, 2, none⟩) (v := .int .i64 q3) (by simp [go_sem, c2, hltq])
    have d3 := keepc hb2 (a := ⟨w.heap.size, 3, none⟩) (v := .int .i64 q4) (by simp [go_sem, c3, hltq])
    have d4 := keepc hb2 (a := ⟨w.heap.size, 4, none⟩) (v := .int .i64 q5) (by simp [go_sem, c4, hltq])
    have d5 := keepc hb2 (a := ⟨w.heap.size, 5, none⟩) (v := .int .i64 q6) (by simp [go_sem, c5, hltq])
    have d6 := keepc hb2 (a := ⟨w.heap.size, 6, none⟩) (v := .int .i64 q7) (by simp [go_sem, c6, hltq])
    have hs2 := hB2.size
    have hltt := cell_lt t0
    simp only at hltt
    have hlt2 := cell_lt d0
    simp only at hlt2
    have PP0 : pl l q1 < l.length := of_decide_eq_true HX.out
    have PP : Hid (pl l q1 < len) := by unfold Hid; rw [← HL.out]; exact PP0
    clear PP0
    have hpf := run_par
    have QA := hid (fun W (hW : Below w2.heap.size w2 W) => queue_any lb off len cap mb l q1 W (T2.out.below hW) HQ.out.1 PP.out)
    clear hb2 c0 c1 c2 c3 c4 c5 c6
    obtain ⟨r, hr⟩ : ∃ r, qa l (pl l q1) = r := ⟨_, rfl⟩
    rw [hr] at QA TP
    obtain ⟨r1, r2, r3, r4, r5, r6, r7⟩ := r
    have tp := TP.out
    unfold qv at QA
    simp only at QA tp
    clear hr
    go_wp2_with fail
    go_region_with ((go_at_call 48; refine (QA.out _ (by repeat (first | exact Below.refl _ _ | assumption | refine Below.alloc ?_ (by first | omega | (simp <;> omega)) _ | refine Below.setCell ?_ (by first | omega | (simp <;> omega)) _ | refine Below.drew ?_ | refine below_drewN ?_ _))).mono ?_; rintro e w3 ⟨rfl, hb3⟩; have B3 := hid hb3; have k0 := keepc hb3 (a := ⟨w.heap.size, 0, none⟩) (v := .int .i64 q1) (by simp [go_sem, d0]); have k1 := keepc hb3 (a := ⟨w.heap.size, 1, none⟩) (v := .int .i64 q2) (by simp [go_sem, d1]); have k2 := keepc hb3 (a := ⟨w.heap.size, 2, none⟩) (v := .int .i64 q3) (by simp [go_sem, d2]); have k3 := keepc hb3 (a := ⟨w.heap.size, 3, none⟩) (v := .int .i64 q4) (by simp [go_sem, d3]); have k4 := keepc hb3 (a := ⟨w.heap.size, 4, none⟩) (v := .int .i64 q5) (by simp [go_sem, d4]); have k5 := keepc hb3 (a := ⟨w.heap.size, 5, none⟩) (v := .int .i64 q6) (by simp [go_sem, d5]); have k6 := keepc hb3 (a := ⟨w.heap.size, 6, none⟩) (v := .int .i64 q7) (by simp [go_sem, d6]); have s0 := keepc hb3 (a := ⟨w1.heap.size, 0, none⟩) (v := .slice (some ⟨lb, off, none⟩) len cap) (by simp [go_sem, t0]); have s1 := keepc hb3 (a := ⟨w1.heap.size, 1, none⟩) (v := .map (some mb)) (by simp [go_sem, t1]); clear hb3 d0 d1 d2 d3 d4 d5 d6 t0 t1))
    all_goals go_wp2
    all_goals
      have hB3 : Below w.heap.size w w3 := hB2.trans (Below.mono ⟨B3.out.os, B3.out.tape, B3.out.output, B3.out.size, B3.out.block⟩ hB2.size)
      go_ret2
      exact ⟨rfl, hB3⟩
  · exact absurd HC.out h1.1

set_option maxRecDepth 100000 in
set_option maxHeartbeats 4000000 in
theorem set_last (a : Option Addr) (len cap : Nat) (l : List Qu) (q : Qu) (w : World) (h : HoldsQ w a len cap l) (hok : ∀ x ∈ l, x.ok) (hq : q.ok) (hC : chkE l = 0) (hX : hasQ l q.id = true) (hP : (qa l (pl l q.id)).par = q.par) :
    Calls Try.prog 15 #[.slice a len cap, qv q] w fun e w' => (∃ v, e = .returned (.tuple #[v, .int .i64 (chkE (setM l q))]) ∧ AnsQ w.heap.size w' v (setA l q)) ∧ Below w.heap.size w w' := by
  have HH := hid h
  have HO := hid hok
  have HQ := hid hq
  have HL := hid h.1
  have hcap0 := h.2.1
  have HR := hid (read_any a len cap l (w.alloc (boxQ q)) (h.below (by repeat (first | exact Below.refl _ _ | assumption | refine Below.alloc ?_ (by simp <;> omega) _ | refine Below.setCell ?_ (by simp <;> omega) _ | refine Below.drew ?_ | refine below_drewN ?_ _))) hok)
  clear h hok hq
  have HC := hid hC
  have HX := hid hX
  have TP : Hid (((qa l (pl l q.id)).par != q.par) = false) := by simpa [Hid] using hP
  clear hC hX hP
  obtain ⟨q1, q2, q3, q4, q5, q6, q7⟩ := q
  simp only at *
  go_enter Try.func15, Try.ntmps15
  go_wp2_with fail
  refine HR.out.mono ?_
  rintro e w1 ⟨h1 | h1, hb1⟩
  · obtain ⟨_, lb, off, mb, rfl, rfl, hT⟩ := h1
    have T1 := hid hT
    clear hT
    have c0 := keepc hb1 (a := ⟨w.heap.size, 0, none⟩) (v := .int .i64 q1) (by simp [go_sem])
    have c1 := keepc hb1 (a := ⟨w.heap.size, 1, none⟩) (v := .int .i64 q2) (by simp [go_sem])
    have c2 := keepc hb1 (a := ⟨w.heap.size, 2, none⟩) (v := .int .i64 q3) (by simp [go_sem])
    have c3 := keepc hb1 (a := ⟨w.heap.size, 3, none⟩) (v := .int .i64 q4) (by simp [go_sem])
    have c4 := keepc hb1 (a := ⟨w.heap.size, 4, none⟩) (v := .int .i64 q5) (by simp [go_sem])
    have c5 := keepc hb1 (a := ⟨w.heap.size, 5, none⟩) (v := .int .i64 q6) (by simp [go_sem])
    have c6 := keepc hb1 (a := ⟨w.heap.size, 6, none⟩) (v := .int .i64 q7) (by simp [go_sem])
    have hltq := cell_lt c0
    simp only at hltq
    have hB1 : Below w.heap.size w w1 := Below.trans (by repeat (first | exact Below.refl _ _ | assumption | refine Below.alloc ?_ (by first | omega | (simp <;> omega)) _ | refine Below.setCell ?_ (by first | omega | (simp <;> omega)) _ | refine Below.drew ?_ | refine below_drewN ?_ _)) (hb1.mono (by simp))
    have hs1 := hB1.size
    clear hb1 HR
    go_wp2_with fail
    refine (has_any lb off len cap mb l q1 _ (T1.out.below (by repeat (first | exact Below.refl _ _ | assumption | refine Below.alloc ?_ (by first | omega | (simp <;> omega)) _ | refine Below.setCell ?_ (by first | omega | (simp <;> omega)) _ | refine Below.drew ?_ | refine below_drewN ?_ _))) HQ.out.1).mono ?_
    rintro e w2 ⟨rfl, hb2⟩
    rw [HX.out]
    have hB2 : Below w.heap.size w w2 := (hB1.alloc hB1.size (.cells #[.slice (some ⟨lb, off, none⟩) len cap, .map (some mb)] 56)).trans (hb2.mono (by simp; omega))
    have T2 := hid (T1.out.below (Below.trans ((Below.refl _ w1).alloc (Nat.le_refl _) (.cells #[.slice (some ⟨lb, off, none⟩) len cap, .map (some mb)] 56)) (hb2.mono (by simp))))
    have t0 := keepc hb2 (a := ⟨w1.heap.size, 0, none⟩) (v := .slice (some ⟨lb, off, none⟩) len cap) (by simp [go_sem])
    have t1 := keepc hb2 (a := ⟨w1.heap.size, 1, none⟩) (v := .map (some mb)) (by simp [go_sem])
    have d0 := keepc hb2 (a := ⟨w.heap.size, 0, none⟩) (v := .int .i64 q1) (by simp [go_sem, c0, hltq])
    have d1 := keepc hb2 (a := ⟨w.heap.size, 1, none⟩) (v := .int .i64 q2) (by simp [go_sem, c1, hltq])
    have d2 := keepc hb2 (a := ⟨w.heap.size, 2, none⟩) (v := .int .i64 q3) (by simp [go_sem, c2, hltq])
    have d3 := keepc hb2 (a := ⟨w.heap.size, 3, none⟩) (v := .int .i64 q4) (by simp [go_sem, c3, hltq])
    have d4 := keepc hb2 (a := ⟨w.heap.size, 4, none⟩) (v := .int .i64 q5) (by simp [go_sem, c4, hltq])
    have d5 := keepc hb2 (a := ⟨w.heap.size, 5, none⟩) (v := .int .i64 q6) (by simp [go_sem, c5, hltq])
    have d6 := keepc hb2 (a := ⟨w.heap.size, 6, none⟩) (v := .int .i64 q7) (by simp [go_sem, c6, hltq])
    have hs2 := hB2.size
    have hltt := cell_lt t0
    simp only at hltt
    have hlt2 := cell_lt d0
    simp only at hlt2
    have PP0 : pl l q1 < l.length := of_decide_eq_true HX.out
    have PP : Hid (pl l q1 < len) := by unfold Hid; rw [← HL.out]; exact PP0
    clear PP0
    have hpf := run_par
    have QA := hid (fun W (hW : Below w2.heap.size w2 W) => queue_any lb off len cap mb l q1 W (T2.out.below hW) HQ.out.1 PP.out)
    clear hb2 c0 c1 c2 c3 c4 c5 c6
    obtain ⟨r, hr⟩ : ∃ r, qa l (pl l q1) = r := ⟨_, rfl⟩
    rw [hr] at QA TP
    obtain ⟨r1, r2, r3, r4, r5, r6, r7⟩ := r
    have tp := TP.out
    unfold qv at QA
    simp only at QA tp
    clear hr
    go_wp2_with fail
    go_region_with ((go_at_call 48; refine (QA.out _ (by repeat (first | exact Below.refl _ _ | assumption | refine Below.alloc ?_ (by first | omega | (simp <;> omega)) _ | refine Below.setCell ?_ (by first | omega | (simp <;> omega)) _ | refine Below.drew ?_ | refine below_drewN ?_ _))).mono ?_; rintro e w3 ⟨rfl, hb3⟩; have B3 := hid hb3; have k0 := keepc hb3 (a := ⟨w.heap.size, 0, none⟩) (v := .int .i64 q1) (by simp [go_sem, d0]); have k1 := keepc hb3 (a := ⟨w.heap.size, 1, none⟩) (v := .int .i64 q2) (by simp [go_sem, d1]); have k2 := keepc hb3 (a := ⟨w.heap.size, 2, none⟩) (v := .int .i64 q3) (by simp [go_sem, d2]); have k3 := keepc hb3 (a := ⟨w.heap.size, 3, none⟩) (v := .int .i64 q4) (by simp [go_sem, d3]); have k4 := keepc hb3 (a := ⟨w.heap.size, 4, none⟩) (v := .int .i64 q5) (by simp [go_sem, d4]); have k5 := keepc hb3 (a := ⟨w.heap.size, 5, none⟩) (v := .int .i64 q6) (by simp [go_sem, d5]); have k6 := keepc hb3 (a := ⟨w.heap.size, 6, none⟩) (v := .int .i64 q7) (by simp [go_sem, d6]); have s0 := keepc hb3 (a := ⟨w1.heap.size, 0, none⟩) (v := .slice (some ⟨lb, off, none⟩) len cap) (by simp [go_sem, t0]); have s1 := keepc hb3 (a := ⟨w1.heap.size, 1, none⟩) (v := .map (some mb)) (by simp [go_sem, t1]); clear hb3 d0 d1 d2 d3 d4 d5 d6 t0 t1))
    all_goals
      have hB3 : Below w.heap.size w w3 := hB2.trans (Below.mono ⟨B3.out.os, B3.out.tape, B3.out.output, B3.out.size, B3.out.block⟩ hB2.size)
      have T3 := hid (T2.out.below (⟨B3.out.os, B3.out.tape, B3.out.output, B3.out.size, B3.out.block⟩ : Below w2.heap.size w2 w3))
      have H3 := hid (HH.out.below hB3)
      have hle3 := T3.out.hle
      have hpos := T3.out.pos
      have lt3 := cell_lt k0
      have lt4 := cell_lt s0
      simp only at lt3 lt4
      clear B3 T1 T2 QA
      go_wp2_with fail
      refine (clone_any lb off len cap l w3 H3.out hle3).mono ?_
      rintro e w4 ⟨v4, rfl, O4, hb4⟩
      obtain ⟨g, c, rfl⟩ := own_pos O4 hpos
      have HO4 := hid O4
      have hB4 := hB3.trans (hb4.mono hB3.size)
      have M4 := (T3.out.below hb4).map.get HQ.out.1 PP.out
      have m0 := keepc hb4 k0
      have m1 := keepc hb4 k1
      have m2 := keepc hb4 k2
      have m3 := keepc hb4 k3
      have m4 := keepc hb4 k4
      have m5 := keepc hb4 k5
      have m6 := keepc hb4 k6
      have n1 := keepc hb4 s1
      obtain ⟨_, hso, hfo, _, hno, hmo, hgo, hlo⟩ := own_cells O4
      have SO := hid (set_own (p := pl l q1) (q := ⟨q1, q2, q3, q4, q5, q6, q7⟩) O4 PP.out)
      have EM : Hid (setM l ⟨q1, q2, q3, q4, q5, q6, q7⟩ = l.set (pl l q1) ⟨q1, q2, q3, q4, q5, q6, q7⟩) := rfl
      generalize pl l q1 = pp at *
      have pa : (0 : Int) ≤ (pp : Int) := by omega
      have pb : (pp : Int) < (len : Int) := by have := PP.out; omega
      have gne : g ≠ w.heap.size := by omega
      obtain ⟨z0, x0⟩ := Option.isSome_iff_exists.1 (hso (pp * 7 + 0) (by have := PP.out; omega))
      have y0 := hfo (pp * 7 + 0)
      obtain ⟨z1, x1⟩ := Option.isSome_iff_exists.1 (hso (pp * 7 + 1) (by have := PP.out; omega))
      have y1 := hfo (pp * 7 + 1)
      obtain ⟨z2, x2⟩ := Option.isSome_iff_exists.1 (hso (pp * 7 + 2) (by have := PP.out; omega))
      have y2 := hfo (pp * 7 + 2)
      obtain ⟨z3, x3⟩ := Option.isSome_iff_exists.1 (hso (pp * 7 + 3) (by have := PP.out; omega))
      have y3 := hfo (pp * 7 + 3)
      obtain ⟨z4, x4⟩ := Option.isSome_iff_exists.1 (hso (pp * 7 + 4) (by have := PP.out; omega))
      have y4 := hfo (pp * 7 + 4)
      obtain ⟨z5, x5⟩ := Option.isSome_iff_exists.1 (hso (pp * 7 + 5) (by have := PP.out; omega))
      have y5 := hfo (pp * 7 + 5)
      obtain ⟨z6, x6⟩ := Option.isSome_iff_exists.1 (hso (pp * 7 + 6) (by have := PP.out; omega))
      have y6 := hfo (pp * 7 + 6)
      simp only [Nat.add_zero] at x0 y0
      clear O4 hb4 k0 k1 k2 k3 k4 k5 k6 s0 s1 hso hfo
      go_wp2_with fail
      by_cases HM : chkE (l.set pp ⟨q1, q2, q3, q4, q5, q6, q7⟩) = 0
      · have CH := hid (checked_yes (some ⟨g, 0, none⟩) len c (l.set pp ⟨q1, q2, q3, q4, q5, q6, q7⟩) _ SO.out.1 (setM_ok HO.out HQ.out) HM)
        have EN : Hid (chkE (l.set pp ⟨q1, q2, q3, q4, q5, q6, q7⟩) = 0) := HM
        clear HM
        refine CH.out.mono ?_
        rintro e w5 ⟨rfl, hb5⟩
        have hB5 : Below w.heap.size w w5 := hB4.trans (Below.trans (SO.out.2.1.mono hB3.size) (hb5.mono (Nat.le_trans hB4.size SO.out.2.1.size)))
        have H5 := hid (SO.out.1.below hb5)
        clear hb5
        go_wp2
        go_ret2
        unfold setA
        rw [EM.out, EN.out]
        refine ⟨⟨_, rfl, .inr ?_⟩, hB5⟩
        rw [if_pos rfl, List.length_set, HL.out]
        exact ⟨g, c, rfl, Nat.le_trans hB3.size SO.out.2.2, H5.out⟩
      · have CH := hid (checked_no (some ⟨g, 0, none⟩) len c (l.set pp ⟨q1, q2, q3, q4, q5, q6, q7⟩) _ SO.out.1 (setM_ok HO.out HQ.out) HM)
        have EN : Hid (¬ chkE (l.set pp ⟨q1, q2, q3, q4, q5, q6, q7⟩) = 0) := HM
        clear HM
        refine CH.out.mono ?_
        rintro e w5 ⟨rfl, hb5⟩
        have hB5 : Below w.heap.size w w5 := hB4.trans (Below.trans (SO.out.2.1.mono hB3.size) (hb5.mono (Nat.le_trans hB4.size SO.out.2.1.size)))
        clear hb5
        obtain ⟨E, hE⟩ : ∃ E, E = chkE (l.set pp ⟨q1, q2, q3, q4, q5, q6, q7⟩) := ⟨_, rfl⟩
        rw [← hE] at EN ⊢
        have HE := hid hE
        clear hE
        go_wp2
        go_ret2
        unfold setA
        rw [EM.out, ← HE.out]
        exact ⟨⟨_, rfl, by rw [if_neg EN.out]; exact AnsQ.nil _ _⟩, hB5⟩
  · exact absurd HC.out h1.1

theorem setM_len (l : List Qu) (q : Qu) : (setM l q).length = l.length := by unfold setM; simp
/-- Set. -/
theorem set_any (a : Option Addr) (len cap : Nat) (l : List Qu) (q : Qu) (w : World) (h : HoldsQ w a len cap l) (hok : ∀ x ∈ l, x.ok) (hq : q.ok) :
    Calls Try.prog 15 #[.slice a len cap, qv q] w fun e w' => ∃ v, e = .returned (.tuple #[v, .int .i64 (setE l q)]) ∧ AnsQ w.heap.size w' v (setR l q) ∧ Below w.heap.size w w' := by
  by_cases hC : chkE l = 0
  · cases hX : hasQ l q.id
    · have E : setE l q = 8 := by unfold setE; rw [if_neg (by rw [hC]; decide), if_pos hX]
      refine (set_none a len cap l q w h hok hq hC hX).mono ?_
      rintro e w' ⟨rfl, hb⟩
      exact ⟨_, by rw [E], by unfold setR; rw [E]; exact AnsQ.nil _ _, hb⟩
    · by_cases hP : (qa l (pl l q.id)).par = q.par
      · have E : setE l q = chkE (setM l q) := by unfold setE; rw [if_neg (by rw [hC]; decide), if_neg (by rw [hX]; decide), if_neg (by simpa using hP)]
        refine (set_last a len cap l q w h hok hq hC hX hP).mono ?_
        rintro e w' ⟨⟨v, rfl, hv⟩, hb⟩
        exact ⟨_, by rw [E], by unfold setR; rw [E]; unfold setA at hv; exact hv, hb⟩
      · have E : setE l q = 4 := by unfold setE; rw [if_neg (by rw [hC]; decide), if_neg (by rw [hX]; decide), if_pos hP]
        refine (set_form a len cap l q w h hok hq hC hX hP).mono ?_
        rintro e w' ⟨rfl, hb⟩
        exact ⟨_, by rw [E], by unfold setR; rw [E]; exact AnsQ.nil _ _, hb⟩
  · have E : setE l q = chkE l := by unfold setE; rw [if_pos hC]
    refine (set_list a len cap l q w h hok hq hC).mono ?_
    rintro e w' ⟨rfl, hb⟩
    exact ⟨_, by rw [E], by unfold setR; rw [E, if_neg hC]; exact AnsQ.nil _ _, hb⟩

end Go.Proofs.Ytcfaciicljjpoaa
