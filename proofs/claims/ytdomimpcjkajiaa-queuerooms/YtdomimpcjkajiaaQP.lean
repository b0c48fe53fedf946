/-
  Contracts of queue: Add.
-/
import Derived.Test.YtdomimpcjkajiaaQK
import Derived.Test.YtdomimpcjkajiaaQN
import Derived.Test.YtdomimpcjkajiaaQO
namespace Go.Proofs.Ytdomimpcjkajiaa
open Go.RowKit Go.Deep Go.Maps Go.Shelf
set_option linter.unusedVariables false

/-- An answer: nothing, or new memory. -/
def AnsQ (base : Nat) (w : World) (v : Value) (m : List Qu) : Prop := (m = [] ∧ v = .slice none 0 0) ∨ NewQ base w v m.length m
theorem AnsQ.nil (base : Nat) (w : World) : AnsQ base w (.slice none 0 0) [] := .inl ⟨rfl, rfl⟩
theorem AnsQ.holds {base : Nat} {w : World} {v : Value} {m : List Qu} (h : AnsQ base w v m) : ∃ a cap, v = .slice a m.length cap ∧ HoldsQ w a m.length cap m := by
  rcases h with ⟨rfl, rfl⟩ | ⟨g, cap, rfl, _, hh⟩
  · exact ⟨none, 0, rfl, rfl, Nat.le_refl _, by omega, fun _ => ⟨rfl, rfl⟩, fun h => absurd h (by simp)⟩
  · exact ⟨_, _, rfl, hh⟩

theorem own_pos {base n : Nat} {w : World} {v : Value} {l : List Qu} (h : OwnQ base w v n l) (hn : 0 < n) : ∃ g cap, v = .slice (some ⟨g, 0, none⟩) n cap := by
  rcases h.2.2 with ⟨_, h0⟩ | ⟨g, cap', cur, hv, _⟩
  · omega
  · exact ⟨g, cap', hv⟩

/-- What Add answers. -/
def addM (l : List Qu) (q : Qu) : List Qu := insQ l (sp l q.id) q
def addE (l : List Qu) (q : Qu) : Int := if chkE l ≠ 0 then chkE l else if hasQ l q.id = true then 9 else if l.length = 64 then 10 else if hasQ l q.par = false then 8 else chkE (addM l q)
def addR (l : List Qu) (q : Qu) : List Qu := if addE l q = 0 then addM l q else []

set_option maxHeartbeats 1000000 in
theorem checked_yes (a : Option Addr) (len cap : Nat) (l : List Qu) (w : World) (h : HoldsQ w a len cap l) (hok : ∀ q ∈ l, q.ok) (hE : chkE l = 0) :
    Calls Try.prog 71 #[.slice a len cap] w fun e w' => e = .returned (.tuple #[.slice a len cap, .int .i64 0]) ∧ Below w.heap.size w w' := by
  have H := hid (check_q a len cap l w h hok)
  have HE := hid hE
  clear h hok hE
  go_enter Try.func71, Try.ntmps71
  go_wp2_with fail
  refine H.out.mono ?_
  rintro e w1 ⟨rfl, hb1⟩
  rw [HE.out]
  go_wp2
  go_ret2
  exact ⟨rfl, hb1⟩
set_option maxHeartbeats 1000000 in
theorem checked_no (a : Option Addr) (len cap : Nat) (l : List Qu) (w : World) (h : HoldsQ w a len cap l) (hok : ∀ q ∈ l, q.ok) (hE : chkE l ≠ 0) :
    Calls Try.prog 71 #[.slice a len cap] w fun e w' => e = .returned (.tuple #[.slice none 0 0, .int .i64 (chkE l)]) ∧ Below w.heap.size w w' := by
  have H := hid (check_q a len cap l w h hok)
  have t : (chkE l != 0) = true := by simpa using hE
  clear h hok hE
  generalize chkE l = E at *
  go_enter Try.func71, Try.ntmps71
  go_wp2_with fail
  refine H.out.mono ?_
  rintro e w1 ⟨rfl, hb1⟩
  go_wp2
  go_ret2
  exact ⟨rfl, hb1⟩

theorem insQ_ok {l : List Qu} {q : Qu} {i : Nat} (h : ∀ x ∈ l, x.ok) (hq : q.ok) : ∀ x ∈ insQ l i q, x.ok := by
  intro x hx
  unfold insQ at hx
  simp only [List.mem_append, List.mem_cons] at hx
  rcases hx with hx | rfl | hx
  · exact h x (List.mem_of_mem_take hx)
  · exact hq
  · exact h x (List.mem_of_mem_drop hx)

set_option maxRecDepth 100000 in
set_option maxHeartbeats 4000000 in
theorem add_list (a : Option Addr) (len cap : Nat) (l : List Qu) (q : Qu) (w : World) (h : HoldsQ w a len cap l) (hok : ∀ x ∈ l, x.ok) (hq : q.ok) (hE : chkE l ≠ 0) :
    Calls Try.prog 32 #[.slice a len cap, qv q] w fun e w' => e = .returned (.tuple #[.slice none 0 0, .int .i64 (chkE l)]) ∧ Below w.heap.size w w' := by
  have HH := hid h
  have HO := hid hok
  have HQ := hid hq
  have HL := hid h.1
  have hcap0 := h.2.1
  have HR := hid (read_any a len cap l (w.alloc (boxQ q)) (h.below (by repeat (first | exact Below.refl _ _ | assumption | refine Below.alloc ?_ (by simp <;> omega) _ | refine Below.setCell ?_ (by simp <;> omega) _ | refine Below.drew ?_ | refine below_drewN ?_ _))) hok)
  clear h hok hq
  have t : (chkE l != 0) = true := by simpa using hE
  have HE := hid hE
  clear hE
  generalize chkE l = E at *
  obtain ⟨q1, q2, q3, q4, q5, q6, q7⟩ := q
  go_enter Try.func32, Try.ntmps32
  go_wp2_with fail
  refine HR.out.mono ?_
  rintro e w1 ⟨h1 | h1, hb1⟩
  · exact absurd h1.1 HE.out
  · obtain ⟨_, rfl⟩ := h1
    have hB1 : Below w.heap.size w w1 := Below.trans (by repeat (first | exact Below.refl _ _ | assumption | refine Below.alloc ?_ (by first | omega | (simp <;> omega)) _ | refine Below.setCell ?_ (by first | omega | (simp <;> omega)) _ | refine Below.drew ?_ | refine below_drewN ?_ _)) (hb1.mono (by simp))
    have hs1 := hB1.size
    clear hb1 HR
    go_wp2
    go_ret2
    exact ⟨rfl, (by repeat (first | exact Below.refl _ _ | assumption | refine Below.alloc ?_ (by first | omega | (simp <;> omega)) _ | refine Below.setCell ?_ (by first | omega | (simp <;> omega)) _ | refine Below.drew ?_ | refine below_drewN ?_ _))⟩

set_option maxRecDepth 100000 in
set_option maxHeartbeats 4000000 in
theorem add_exists (a : Option Addr) (len cap : Nat) (l : List Qu) (q : Qu) (w : World) (h : HoldsQ w a len cap l) (hok : ∀ x ∈ l, x.ok) (hq : q.ok) (hC : chkE l = 0) (hX : hasQ l q.id = true) :
    Calls Try.prog 32 #[.slice a len cap, qv q] w fun e w' => e = .returned (.tuple #[.slice none 0 0, .int .i64 (9)]) ∧ Below w.heap.size w w' := by
  have HH := hid h
  have HO := hid hok
  have HQ := hid hq
  have HL := hid h.1
  have hcap0 := h.2.1
  have HR := hid (read_any a len cap l (w.alloc (boxQ q)) (h.below (by repeat (first | exact Below.refl _ _ | assumption | refine Below.alloc ?_ (by simp <;> omega) _ | refine Below.setCell ?_ (by simp <;> omega) _ | refine Below.drew ?_ | refine below_drewN ?_ _))) hok)
  clear h hok hq
  have HC := hid hC
  have HX := hid hX
  clear hC hX
  obtain ⟨q1, q2, q3, q4, q5, q6, q7⟩ := q
  simp only at *
  go_enter Try.func32, Try.ntmps32
  go_wp2_with fail
  refine HR.out.mono ?_
  rintro e w1 ⟨h1 | h1, hb1⟩
  · obtain ⟨_, lb, off, mb, rfl, rfl, hT⟩ := h1
    have T1 := hid hT
    clear hT
    have c0 := keepc hb1 (a := ⟨w.heap.size, 0, none⟩) (v := .int .i64 q1) (by simp [go_sem])
    have c1 := keepc hb1 (a := ⟨w.heap.size, 1, none⟩) (v := .int .i64 q2) (by simp [go_sem])
    have c2 := keepc hb1 (a := ⟨w.heap.size, 2, none⟩) (v := .int .i64 q3) (by simp [go_sem])
    have c3 := keepc hb1 (a := ⟨w.heap.size, 3, none⟩) (v := .int .i64 q4) (by simp [go_sem])
    have c4 := keepc hb1 (a := ⟨w.heap.size, 4, none⟩) (v := .int .i64 q5) (by simp [go_sem])
    have c5 := keepc hb1 (a := ⟨w.heap.size, 5, none⟩) (v := .int .i64 q6) (by simp [go_sem])
    have c6 := keepc hb1 (a := ⟨w.heap.size, 6, none⟩) (v := .int .i64 q7) (by simp [go_sem])
    have hltq := cell_lt c0
    simp only at hltq
    have hB1 : Below w.heap.size w w1 := Below.trans (by repeat (first | exact Below.refl _ _ | assumption | refine Below.alloc ?_ (by first | omega | (simp <;> omega)) _ | refine Below.setCell ?_ (by first | omega | (simp <;> omega)) _ | refine Below.drew ?_ | refine below_drewN ?_ _)) (hb1.mono (by simp))
    have hs1 := hB1.size
    clear hb1 HR
    go_wp2_with fail
    refine (has_any lb off len cap mb l q1 _ (T1.out.below (by repeat (first | exact Below.refl _ _ | assumption | refine Below.alloc ?_ (by first | omega | (simp <;> omega)) _ | refine Below.setCell ?_ (by first | omega | (simp <;> omega)) _ | refine Below.drew ?_ | refine below_drewN ?_ _))) HQ.out.1).mono ?_
    rintro e w2 ⟨rfl, hb2⟩
    rw [HX.out]
    have hB2 : Below w.heap.size w w2 := (hB1.alloc hB1.size (.cells #[.slice (some ⟨lb, off, none⟩) len cap, .map (some mb)] 61)).trans (hb2.mono (by simp; omega))
    clear hb2
    go_wp2
    go_ret2
    exact ⟨rfl, hB2⟩
  · exact absurd HC.out h1.1

set_option maxRecDepth 100000 in
set_option maxHeartbeats 4000000 in
theorem add_full (a : Option Addr) (len cap : Nat) (l : List Qu) (q : Qu) (w : World) (h : HoldsQ w a len cap l) (hok : ∀ x ∈ l, x.ok) (hq : q.ok) (hC : chkE l = 0) (hX : hasQ l q.id = false) (hF : len = 64) :
    Calls Try.prog 32 #[.slice a len cap, qv q] w fun e w' => e = .returned (.tuple #[.slice none 0 0, .int .i64 (10)]) ∧ Below w.heap.size w w' := by
  have HH := hid h
  have HO := hid hok
  have HQ := hid hq
  have HL := hid h.1
  have hcap0 := h.2.1
  have HR := hid (read_any a len cap l (w.alloc (boxQ q)) (h.below (by repeat (first | exact Below.refl _ _ | assumption | refine Below.alloc ?_ (by simp <;> omega) _ | refine Below.setCell ?_ (by simp <;> omega) _ | refine Below.drew ?_ | refine below_drewN ?_ _))) hok)
  clear h hok hq
  have HC := hid hC
  have HX := hid hX
  clear hC hX
  subst hF
  obtain ⟨q1, q2, q3, q4, q5, q6, q7⟩ := q
  simp only at *
  go_enter Try.func32, Try.ntmps32
  go_wp2_with fail
  refine HR.out.mono ?_
  rintro e w1 ⟨h1 | h1, hb1⟩
  · obtain ⟨_, lb, off, mb, rfl, rfl, hT⟩ := h1
    have T1 := hid hT
    clear hT
    have c0 := keepc hb1 (a := ⟨w.heap.size, 0, none⟩) (v := .int .i64 q1) (by simp [go_sem])
    have c1 := keepc hb1 (a := ⟨w.heap.size, 1, none⟩) (v := .int .i64 q2) (by simp [go_sem])
    have c2 := keepc hb1 (a := ⟨w.heap.size, 2, none⟩) (v := .int .i64 q3) (by simp [go_sem])
    have c3 := keepc hb1 (a := ⟨w.heap.size, 3, none⟩) (v := .int .i64 q4) (by simp [go_sem])
    have c4 := keepc hb1 (a := ⟨w.heap.size, 4, none⟩) (v := .int .i64 q5) (by simp [go_sem])
    have c5 := keepc hb1 (a := ⟨w.heap.size, 5, none⟩) (v := .int .i64 q6) (by simp [go_sem])
    have c6 := keepc hb1 (a := ⟨w.heap.size, 6, none⟩) (v := .int .i64 q7) (by simp [go_sem])
    have hltq := cell_lt c0
    simp only at hltq
    have hB1 : Below w.heap.size w w1 := Below.trans (by repeat (first | exact Below.refl _ _ | assumption | refine Below.alloc ?_ (by first | omega | (simp <;> omega)) _ | refine Below.setCell ?_ (by first | omega | (simp <;> omega)) _ | refine Below.drew ?_ | refine below_drewN ?_ _)) (hb1.mono (by simp))
    have hs1 := hB1.size
    clear hb1 HR
    go_wp2_with fail
    refine (has_any lb off 64 cap mb l q1 _ (T1.out.below (by repeat (first | exact Below.refl _ _ | assumption | refine Below.alloc ?_ (by first | omega | (simp <;> omega)) _ | refine Below.setCell ?_ (by first | omega | (simp <;> omega)) _ | refine Below.drew ?_ | refine below_drewN ?_ _))) HQ.out.1).mono ?_
    rintro e w2 ⟨rfl, hb2⟩
    rw [HX.out]
    have hB2 : Below w.heap.size w w2 := (hB1.alloc hB1.size (.cells #[.slice (some ⟨lb, off, none⟩) 64 cap, .map (some mb)] 61)).trans (hb2.mono (by simp; omega))
    clear hb2
    go_wp2
    go_ret2
    exact ⟨rfl, hB2⟩
  · exact absurd HC.out h1.1

set_option maxRecDepth 100000 in
set_option maxHeartbeats 4000000 in
theorem add_none (a : Option Addr) (len cap : Nat) (l : List Qu) (q : Qu) (w : World) (h : HoldsQ w a len cap l) (hok : ∀ x ∈ l, x.ok) (hq : q.ok) (hC : chkE l = 0) (hX : hasQ l q.id = false) (hF : len ≠ 64) (hY : hasQ l q.par = false) :
    Calls Try.prog 32 #[.slice a len cap, qv q] w fun e w' => e = .returned (.tuple #[.slice none 0 0, .int .i64 (8)]) ∧ Below w.heap.size w w' := by
  have HH := hid h
  have HO := hid hok
  have HQ := hid hq
  have HL := hid h.1
  have hcap0 := h.2.1
  have HR := hid (read_any a len cap l (w.alloc (boxQ q)) (h.below (by repeat (first | exact Below.refl _ _ | assumption | refine Below.alloc ?_ (by simp <;> omega) _ | refine Below.setCell ?_ (by simp <;> omega) _ | refine Below.drew ?_ | refine below_drewN ?_ _))) hok)
  clear h hok hq
  have HC := hid hC
  have HX := hid hX
  have HY := hid hY
  clear hC hX hY
  have tf : ((len : Int) == 64) = false := by simp; omega
  obtain ⟨q1, q2, q3, q4, q5, q6, q7⟩ := q
  simp only at *
  go_enter Try.func32, Try.ntmps32
  go_wp2_with fail
  refine HR.out.mono ?_
  rintro e w1 ⟨h1 | h1, hb1⟩
  · obtain ⟨_, lb, off, mb, rfl, rfl, hT⟩ := h1
    have T1 := hid hT
    clear hT
    have c0 := keepc hb1 (a := ⟨w.heap.size, 0, none⟩) (v := .int .i64 q1) (by simp [go_sem])
    have c1 := keepc hb1 (a := ⟨w.heap.size, 1, none⟩) (v := .int .i64 q2) (by simp [go_sem])
    have c2 := keepc hb1 (a := ⟨w.heap.size, 2, none⟩) (v := .int .i64 q3) (by simp [go_sem])
    have c3 := keepc hb1 (a := ⟨w.heap.size, 3, none⟩) (v := .int .i64 q4) (by simp [go_sem])
    have c4 := keepc hb1 (a := ⟨w.heap.size, 4, none⟩) (v := .int .i64 q5) (by simp [go_sem])
    have c5 := keepc hb1 (a := ⟨w.heap.size, 5, none⟩) (v := .int .i64 q6) (by simp [go_sem])
    have c6 := keepc hb1 (a := ⟨w.heap.size, 6, none⟩) (v := .int .i64 q7) (by simp [go_sem])
    have hltq := cell_lt c0
    simp only at hltq
    have hB1 : Below w.heap.size w w1 := Below.trans (by repeat (first | exact Below.refl _ _ | assumption | refine Below.alloc ?_ (by first | omega | (simp <;> omega)) _ | refine Below.setCell ?_ (by first | omega | (simp <;> omega)) _ | refine Below.drew ?_ | refine below_drewN ?_ _)) (hb1.mono (by simp))
    have hs1 := hB1.size
    clear hb1 HR
    go_wp2_with fail
    refine (has_any lb off len cap mb l q1 _ (T1.out.below (by repeat (first | exact Below.refl _ _ | assumption | refine Below.alloc ?_ (by first | omega | (simp <;> omega)) _ | refine Below.setCell ?_ (by first | omega | (simp <;> omega)) _ | refine Below.drew ?_ | refine below_drewN ?_ _))) HQ.out.1).mono ?_
    rintro e w2 ⟨rfl, hb2⟩
    rw [HX.out]
    have hB2 : Below w.heap.size w w2 := (hB1.alloc hB1.size (.cells #[.slice (some ⟨lb, off, none⟩) len cap, .map (some mb)] 61)).trans (hb2.mono (by simp; omega))
    have T2 := hid (T1.out.below (Below.trans ((Below.refl _ w1).alloc (Nat.le_refl _) (.cells #[.slice (some ⟨lb, off, none⟩) len cap, .map (some mb)] 61)) (hb2.mono (by simp))))
    have t0 := keepc hb2 (a := ⟨w1.heap.size, 0, none⟩) (v := .slice (some ⟨lb, off, none⟩) len cap) (by simp [go_sem])
    have t1 := keepc hb2 (a := ⟨w1.heap.size, 1, none⟩) (v := .map (some mb)) (by simp [go_sem])
    have d0 := keepc hb2 (a := ⟨w.heap.size, 0, none⟩) (v := .int .i64 q1) (by simp [go_sem, c0, hltq])
    have d1 := keepc hb2 (a := ⟨w.heap.size, 1, none⟩) (v := .int .i64 q2) (by simp [go_sem, c1, hltq])
    have d2 := keepc hb2 (a := ⟨w.heap.size, 2, none⟩) (v := .int .i64 q3) (by simp [go_sem, c2, hltq])
    have d3 := keepc hb2 (a := ⟨w.heap.size, 3, none⟩) (v := .int .i64 q4) (by simp [go_sem, c3, hltq])
    have d4 := keepc hb2 (a := ⟨w.heap.size, 4, none⟩) (v := .int .i64 q5) (by simp [go_sem, c4, hltq])
    have d5 := keepc hb2 (a := ⟨w.heap.size, 5, none⟩) (v := .int .i64 q6) (by simp [go_sem, c5, hltq])
    have d6 := keepc hb2 (a := ⟨w.heap.size, 6, none⟩) (v := .int .i64 q7) (by simp [go_sem, c6, hltq])
    have hs2 := hB2.size
    have hltt := cell_lt t0
    simp only at hltt
    clear hb2 c0 c1 c2 c3 c4 c5 c6
    go_wp2_with fail
    refine (has_any lb off len cap mb l q2 w2 T2.out HQ.out.2.1).mono ?_
    rintro e w3 ⟨rfl, hb3⟩
    rw [HY.out]
    have hB3 := hB2.trans (hb3.mono hB2.size)
    go_wp2
    go_ret2
    exact ⟨rfl, hB3⟩
  · exact absurd HC.out h1.1

set_option maxRecDepth 100000 in
set_option maxHeartbeats 4000000 in
theorem add_bad (a : Option Addr) (len cap : Nat) (l : List Qu) (q : Qu) (w : World) (h : HoldsQ w a len cap l) (hok : ∀ x ∈ l, x.ok) (hq : q.ok) (hC : chkE l = 0) (hX : hasQ l q.id = false) (hF : len ≠ 64) (hY : hasQ l q.par = true) (hM : chkE (addM l q) ≠ 0) :
    Calls Try.prog 32 #[.slice a len cap, qv q] w fun e w' => e = .returned (.tuple #[.slice none 0 0, .int .i64 (chkE (addM l q))]) ∧ Below w.heap.size w w' := by
  have HH := hid h
  have HO := hid hok
  have HQ := hid hq
  have HL := hid h.1
  have hcap0 := h.2.1
  have HR := hid (read_any a len cap l (w.alloc (boxQ q)) (h.below (by repeat (first | exact Below.refl _ _ | assumption | refine Below.alloc ?_ (by simp <;> omega) _ | refine Below.setCell ?_ (by simp <;> omega) _ | refine Below.drew ?_ | refine below_drewN ?_ _))) hok)
  clear h hok hq
  have HC := hid hC
  have HX := hid hX
  have HY := hid hY
  have HMM := hid hM
  clear hC hX hY hM
  have tf : ((len : Int) == 64) = false := by simp; omega
  obtain ⟨q1, q2, q3, q4, q5, q6, q7⟩ := q
  simp only at *
  go_enter Try.func32, Try.ntmps32
  go_wp2_with fail
  refine HR.out.mono ?_
  rintro e w1 ⟨h1 | h1, hb1⟩
  · obtain ⟨_, lb, off, mb, rfl, rfl, hT⟩ := h1
    have T1 := hid hT
    clear hT
    have c0 := keepc hb1 (a := ⟨w.heap.size, 0, none⟩) (v := .int .i64 q1) (by simp [go_sem])
    have c1 := keepc hb1 (a := ⟨w.heap.size, 1, none⟩) (v := .int .i64 q2) (by simp [go_sem])
    have c2 := keepc hb1 (a := ⟨w.heap.size, 2, none⟩) (v := .int .i64 q3) (by simp [go_sem])
    have c3 := keepc hb1 (a := ⟨w.heap.size, 3, none⟩) (v := .int .i64 q4) (by simp [go_sem])
    have c4 := keepc hb1 (a := ⟨w.heap.size, 4, none⟩) (v := .int .i64 q5) (by simp [go_sem])
    have c5 := keepc hb1 (a := ⟨w.heap.size, 5, none⟩) (v := .int .i64 q6) (by simp [go_sem])
    have c6 := keepc hb1 (a := ⟨w.heap.size, 6, none⟩) (v := .int .i64 q7) (by simp [go_sem])
    have hltq := cell_lt c0
    simp only at hltq
    have hB1 : Below w.heap.size w w1 := Below.trans (by repeat (first | exact Below.refl _ _ | assumption | refine Below.alloc ?_ (by first | omega | (simp <;> omega)) _ | refine Below.setCell ?_ (by first | omega | (simp <;> omega)) _ | refine Below.drew ?_ | refine below_drewN ?_ _)) (hb1.mono (by simp))
    have hs1 := hB1.size
    clear hb1 HR
    go_wp2_with fail
    refine (has_any lb off len cap mb l q1 _ (T1.out.below (by repeat (first | exact Below.refl _ _ | assumption | refine Below.alloc ?_ (by first | omega | (simp <;> omega)) _ | refine Below.setCell ?_ (by first | omega | (simp <;> omega)) _ | refine Below.drew ?_ | refine below_drewN ?_ _))) HQ.out.1).mono ?_
    rintro e w2 ⟨rfl, hb2⟩
    rw [HX.out]
    have hB2 : Below w.heap.size w w2 := (hB1.alloc hB1.size (.cells #[.slice (some ⟨lb, off, none⟩) len cap, .map (some mb)] 61)).trans (hb2.mono (by simp; omega))
    have T2 := hid (T1.out.below (Below.trans ((Below.refl _ w1).alloc (Nat.le_refl _) (.cells #[.slice (some ⟨lb, off, none⟩) len cap, .map (some mb)] 61)) (hb2.mono (by simp))))
    have t0 := keepc hb2 (a := ⟨w1.heap.size, 0, none⟩) (v := .slice (some ⟨lb, off, none⟩) len cap) (by simp [go_sem])
    have t1 := keepc hb2 (a := ⟨w1.heap.size, 1, none⟩) (v := .map (some mb)) (by simp [go_sem])
    have d0 := keepc hb2 (a := ⟨w.heap.size, 0, none⟩) (v := .int .i64 q1) (by simp [go_sem, c0, hltq])
    have d1 := keepc hb2 (a := ⟨w.heap.size, 1, none⟩) (v := .int .i64 q2) (by simp [go_sem, c1, hltq])
    have d2 := keepc hb2 (a := ⟨w.heap.size, 2, none⟩) (v := .int .i64 q3) (by simp [go_sem, c2, hltq])
    have d3 := keepc hb2 (a := ⟨w.heap.size, 3, none⟩) (v := .int .i64 q4) (by simp [go_sem, c3, hltq])
    have d4 := keepc hb2 (a := ⟨w.heap.size, 4, none⟩) (v := .int .i64 q5) (by simp [go_sem, c4, hltq])
    have d5 := keepc hb2 (a := ⟨w.heap.size, 5, none⟩) (v := .int .i64 q6) (by simp [go_sem, c5, hltq])
    have d6 := keepc hb2 (a := ⟨w.heap.size, 6, none⟩) (v := .int .i64 q7) (by simp [go_sem, c6, hltq])
    have hs2 := hB2.size
    have hltt := cell_lt t0
    simp only at hltt
    clear hb2 c0 c1 c2 c3 c4 c5 c6
    go_wp2_with fail
    refine (has_any lb off len cap mb l q2 w2 T2.out HQ.out.2.1).mono ?_
    rintro e w3 ⟨rfl, hb3⟩
    rw [HY.out]
    have hB3 := hB2.trans (hb3.mono hB2.size)
    have T3 := hid (T2.out.below hb3)
    have e0 := keepc hb3 d0
    have e1 := keepc hb3 d1
    have e2 := keepc hb3 d2
    have e3 := keepc hb3 d3
    have e4 := keepc hb3 d4
    have e5 := keepc hb3 d5
    have e6 := keepc hb3 d6
    clear hb3 d0 d1 d2 d3 d4 d5 d6 t0 t1
    have hs3 := hB3.size
    go_wp2_with fail
    refine (search_any lb off len cap l q1 w3 T3.out.row T3.out.hlen T3.out.hle T3.out.hcap T3.out.form).mono ?_
    rintro e w4 ⟨fb, rfl, hb4⟩
    have hB4 := hB3.trans (hb4.mono hB3.size)
    have H4 := hid (HH.out.below hB4)
    have f0 := keepc hb4 e0
    have f1 := keepc hb4 e1
    have f2 := keepc hb4 e2
    have f3 := keepc hb4 e3
    have f4 := keepc hb4 e4
    have f5 := keepc hb4 e5
    have f6 := keepc hb4 e6
    have hs4 := hB4.size
    have lt4 := cell_lt f0
    simp only at lt4
    have hle4 := T3.out.hle
    have hpos := T3.out.pos
    have SL : Hid (sp l q1 ≤ len) := by rw [← HL.out]; exact sp_le l q1
    have HM := hid HMM.out
    unfold addM at HM
    simp only at HM
    have EM : Hid (addM l ⟨q1, q2, q3, q4, q5, q6, q7⟩ = insQ l (sp l q1) ⟨q1, q2, q3, q4, q5, q6, q7⟩) := rfl
    generalize sp l q1 = at' at *
    clear hb4 e0 e1 e2 e3 e4 e5 e6 T1 T2
    go_wp2_with fail
    go_region_with (first
      | (go_at_call 73; refine (clone_any lb off len cap l _ (H4.out.below (by repeat (first | exact Below.refl _ _ | assumption | refine Below.alloc ?_ (by first | omega | (simp <;> omega)) _ | refine Below.setCell ?_ (by first | omega | (simp <;> omega)) _ | refine Below.drew ?_ | refine below_drewN ?_ _))) hle4).mono ?_; rintro e w5 ⟨v5, rfl, O5, hb5⟩; obtain ⟨g5, c5, rfl⟩ := own_pos O5 hpos; have O6 := hid O5; have B5 := hid hb5; have k0 := keepc hb5 (a := ⟨w.heap.size, 0, none⟩) (v := .int .i64 q1) (by simp [go_sem, f0, lt4]); have k1 := keepc hb5 (a := ⟨w.heap.size, 1, none⟩) (v := .int .i64 q2) (by simp [go_sem, f1, lt4]); have k2 := keepc hb5 (a := ⟨w.heap.size, 2, none⟩) (v := .int .i64 q3) (by simp [go_sem, f2, lt4]); have k3 := keepc hb5 (a := ⟨w.heap.size, 3, none⟩) (v := .int .i64 q4) (by simp [go_sem, f3, lt4]); have k4 := keepc hb5 (a := ⟨w.heap.size, 4, none⟩) (v := .int .i64 q5) (by simp [go_sem, f4, lt4]); have k5 := keepc hb5 (a := ⟨w.heap.size, 5, none⟩) (v := .int .i64 q6) (by simp [go_sem, f5, lt4]); have k6 := keepc hb5 (a := ⟨w.heap.size, 6, none⟩) (v := .int .i64 q7) (by simp [go_sem, f6, lt4]); clear O5 hb5 f0 f1 f2 f3 f4 f5 f6)
      | (go_at_call 72; refine (insert_any w4.heap.size g5 len c5 _ at' l ⟨q1, q2, q3, q4, q5, q6, q7⟩ _ (by first | exact O6.out.below ((Below.refl _ _).alloc (Nat.le_refl _) _) | exact O6.out.weaken (by simp)) (by have := B5.out.size; simp at this; simp <;> omega) (by first | exact heap_alloc_new _ _ | exact (B5.out.block _ (by simp)).trans (heap_alloc_new _ _)) (by have := (O6.out.lt g5 rfl); simp at this ⊢; omega) hle4 SL.out).mono ?_; rintro e w6 ⟨v6, rfl, N6, hb6⟩; obtain ⟨g6, c6', rfl, hg6, H6⟩ := N6; have HH6 := hid H6; have B6 := hid hb6; have G6 := hid hg6; clear H6 hb6 hg6)
      | (go_at_call 71; refine (checked_no _ _ _ (insQ l at' ⟨q1, q2, q3, q4, q5, q6, q7⟩) _ HH6.out (insQ_ok HO.out HQ.out) HM.out).mono ?_; rintro e w7 ⟨rfl, hb7⟩; have B7 := hid hb7; clear hb7))
    all_goals go_wp2
    all_goals
      have hB5 : Below w4.heap.size w4 w5 := by first | exact ⟨B5.out.os, B5.out.tape, B5.out.output, B5.out.size, B5.out.block⟩ | exact Below.trans ((Below.refl _ w4).alloc (Nat.le_refl _) _) (Below.mono ⟨B5.out.os, B5.out.tape, B5.out.output, B5.out.size, B5.out.block⟩ (by simp))
      have hB6 : Below w4.heap.size w4 w6 := by first | exact Below.trans hB5 B6.out | exact Below.trans hB5 (Below.trans ((Below.refl _ w5).alloc hB5.size _) B6.out)
      have hB7 : Below w.heap.size w w7 := (hB4.trans (hB6.mono hB4.size)).trans (B7.out.mono (Nat.le_trans hB4.size hB6.size))
      go_ret2
      rw [EM.out]
      exact ⟨rfl, hB7⟩
  · exact absurd HC.out h1.1

set_option maxRecDepth 100000 in
set_option maxHeartbeats 4000000 in
theorem add_good (a : Option Addr) (len cap : Nat) (l : List Qu) (q : Qu) (w : World) (h : HoldsQ w a len cap l) (hok : ∀ x ∈ l, x.ok) (hq : q.ok) (hC : chkE l = 0) (hX : hasQ l q.id = false) (hF : len ≠ 64) (hY : hasQ l q.par = true) (hM : chkE (addM l q) = 0) :
    Calls Try.prog 32 #[.slice a len cap, qv q] w fun e w' => (∃ v, e = .returned (.tuple #[v, .int .i64 0]) ∧ NewQ w.heap.size w' v (len + 1) (addM l q)) ∧ Below w.heap.size w w' := by
  have HH := hid h
  have HO := hid hok
  have HQ := hid hq
  have HL := hid h.1
  have hcap0 := h.2.1
  have HR := hid (read_any a len cap l (w.alloc (boxQ q)) (h.below (by repeat (first | exact Below.refl _ _ | assumption | refine Below.alloc ?_ (by simp <;> omega) _ | refine Below.setCell ?_ (by simp <;> omega) _ | refine Below.drew ?_ | refine below_drewN ?_ _))) hok)
  clear h hok hq
  have HC := hid hC
  have HX := hid hX
  have HY := hid hY
  have HMM := hid hM
  clear hC hX hY hM
  have tf : ((len : Int) == 64) = false := by simp; omega
  obtain ⟨q1, q2, q3, q4, q5, q6, q7⟩ := q
  simp only at *
  go_enter Try.func32, Try.ntmps32
  go_wp2_with fail
  refine HR.out.mono ?_
  rintro e w1 ⟨h1 | h1, hb1⟩
  · obtain ⟨_, lb, off, mb, rfl, rfl, hT⟩ := h1
    have T1 := hid hT
    clear hT
    have c0 := keepc hb1 (a := ⟨w.heap.size, 0, none⟩) (v := .int .i64 q1) (by simp [go_sem])
    have c1 := keepc hb1 (a := ⟨w.heap.size, 1, none⟩) (v := .int .i64 q2) (by simp [go_sem])
    have c2 := keepc hb1 (a := ⟨w.heap.size, 2, none⟩) (v := .int .i64 q3) (by simp [go_sem])
    have c3 := keepc hb1 (a := ⟨w.heap.size, 3, none⟩) (v := .int .i64 q4) (by simp [go_sem])
    have c4 := keepc hb1 (a := ⟨w.heap.size, 4, none⟩) (v := .int .i64 q5) (by simp [go_sem])
    have c5 := keepc hb1 (a := ⟨w.heap.size, 5, none⟩) (v := .int .i64 q6) (by simp [go_sem])
    have c6 := keepc hb1 (a := ⟨w.heap.size, 6, none⟩) (v := .int .i64 q7) (by simp [go_sem])
    have hltq := cell_lt c0
    simp only at hltq
    have hB1 : Below w.heap.size w w1 := Below.trans (by repeat (first | exact Below.refl _ _ | assumption | refine Below.alloc ?_ (by first | omega | (simp <;> omega)) _ | refine Below.setCell ?_ (by first | omega | (simp <;> omega)) _ | refine Below.drew ?_ | refine below_drewN ?_ _)) (hb1.mono (by simp))
    have hs1 := hB1.size
    clear hb1 HR
    go_wp2_with fail
    refine (has_any lb off len cap mb l q1 _ (T1.out.below (by repeat (first | exact Below.refl _ _ | assumption | refine Below.alloc ?_ (by first | omega | (simp <;> omega)) _ | refine Below.setCell ?_ (by first | omega | (simp <;> omega)) _ | refine Below.drew ?_ | refine below_drewN ?_ _))) HQ.out.1).mono ?_
    rintro e w2 ⟨rfl, hb2⟩
    rw [HX.out]
    have hB2 : Below w.heap.size w w2 := (hB1.alloc hB1.size (.cells #[.slice (some ⟨lb, off, none⟩) len cap, .map (some mb)] 61)).trans (hb2.mono (by simp; omega))
    have T2 := hid (T1.out.below (Below.trans ((Below.refl _ w1).alloc (Nat.le_refl _) (.cells #[.slice (some ⟨lb, off, none⟩) len cap, .map (some mb)] 61)) (hb2.mono (by simp))))
    have t0 := keepc hb2 (a := ⟨w1.heap.size, 0, none⟩) (v := .slice (some ⟨lb, off, none⟩) len cap) (by simp [go_sem])
    have t1 := keepc hb2 (a := ⟨w1.heap.size, 1, none⟩) (v := .map (some mb)) (by simp [go_sem])
    have d0 := keepc hb2 (a := ⟨w.heap.size, 0, none⟩) (v := .int .i64 q1) (by simp [go_sem, c0, hltq])
    have d1 := keepc hb2 (a := ⟨w.heap.size, 1, none⟩) (v := .int .i64 q2) (by simp [go_sem, c1, hltq])
    have d2 := keepc hb2 (a := ⟨w.heap.size, 2, none⟩) (v := .int .i64 q3) (by simp [go_sem, c2, hltq])
    have d3 := keepc hb2 (a := ⟨w.heap.size, 3, none⟩) (v := .int .i64 q4) (by simp [go_sem, c3, hltq])
    have d4 := keepc hb2 (a := ⟨w.heap.size, 4, none⟩) (v := .int .i64 q5) (by simp [go_sem, c4, hltq])
    have d5 := keepc hb2 (a := ⟨w.heap.size, 5, none⟩) (v := .int .i64 q6) (by simp [go_sem, c5, hltq])
    have d6 := keepc hb2 (a := ⟨w.heap.size, 6, none⟩) (v := .int .i64 q7) (by simp [go_sem, c6, hltq])
    have hs2 := hB2.size
    have hltt := cell_lt t0
    simp only at hltt
    clear hb2 c0 c1 c2 c3 c4 c5 c6
    go_wp2_with fail
    refine (has_any lb off len cap mb l q2 w2 T2.out HQ.out.2.1).mono ?_
    rintro e w3 ⟨rfl, hb3⟩
    rw [HY.out]
    have hB3 := hB2.trans (hb3.mono hB2.size)
    have T3 := hid (T2.out.below hb3)
    have e0 := keepc hb3 d0
    have e1 := keepc hb3 d1
    have e2 := keepc hb3 d2
    have e3 := keepc hb3 d3
    have e4 := keepc hb3 d4
    have e5 := keepc hb3 d5
    have e6 := keepc hb3 d6
    clear hb3 d0 d1 d2 d3 d4 d5 d6 t0 t1
    have hs3 := hB3.size
    go_wp2_with fail
    refine (search_any lb off len cap l q1 w3 T3.out.row T3.out.hlen T3.out.hle T3.out.hcap T3.out.form).mono ?_
    rintro e w4 ⟨fb, rfl, hb4⟩
    have hB4 := hB3.trans (hb4.mono hB3.size)
    have H4 := hid (HH.out.below hB4)
    have f0 := keepc hb4 e0
    have f1 := keepc hb4 e1
    have f2 := keepc hb4 e2
    have f3 := keepc hb4 e3
    have f4 := keepc hb4 e4
    have f5 := keepc hb4 e5
    have f6 := keepc hb4 e6
    have hs4 := hB4.size
    have lt4 := cell_lt f0
    simp only at lt4
    have hle4 := T3.out.hle
    have hpos := T3.out.pos
    have SL : Hid (sp l q1 ≤ len) := by rw [← HL.out]; exact sp_le l q1
    have HM := hid HMM.out
    unfold addM at HM
    simp only at HM
    have EM : Hid (addM l ⟨q1, q2, q3, q4, q5, q6, q7⟩ = insQ l (sp l q1) ⟨q1, q2, q3, q4, q5, q6, q7⟩) := rfl
    generalize sp l q1 = at' at *
    clear hb4 e0 e1 e2 e3 e4 e5 e6 T1 T2
    go_wp2_with fail
    go_region_with (first
      | (go_at_call 73; refine (clone_any lb off len cap l _ (H4.out.below (by repeat (first | exact Below.refl _ _ | assumption | refine Below.alloc ?_ (by first | omega | (simp <;> omega)) _ | refine Below.setCell ?_ (by first | omega | (simp <;> omega)) _ | refine Below.drew ?_ | refine below_drewN ?_ _))) hle4).mono ?_; rintro e w5 ⟨v5, rfl, O5, hb5⟩; obtain ⟨g5, c5, rfl⟩ := own_pos O5 hpos; have O6 := hid O5; have B5 := hid hb5; have k0 := keepc hb5 (a := ⟨w.heap.size, 0, none⟩) (v := .int .i64 q1) (by simp [go_sem, f0, lt4]); have k1 := keepc hb5 (a := ⟨w.heap.size, 1, none⟩) (v := .int .i64 q2) (by simp [go_sem, f1, lt4]); have k2 := keepc hb5 (a := ⟨w.heap.size, 2, none⟩) (v := .int .i64 q3) (by simp [go_sem, f2, lt4]); have k3 := keepc hb5 (a := ⟨w.heap.size, 3, none⟩) (v := .int .i64 q4) (by simp [go_sem, f3, lt4]); have k4 := keepc hb5 (a := ⟨w.heap.size, 4, none⟩) (v := .int .i64 q5) (by simp [go_sem, f4, lt4]); have k5 := keepc hb5 (a := ⟨w.heap.size, 5, none⟩) (v := .int .i64 q6) (by simp [go_sem, f5, lt4]); have k6 := keepc hb5 (a := ⟨w.heap.size, 6, none⟩) (v := .int .i64 q7) (by simp [go_sem, f6, lt4]); clear O5 hb5 f0 f1 f2 f3 f4 f5 f6)
      | (go_at_call 72; refine (insert_any w4.heap.size g5 len c5 _ at' l ⟨q1, q2, q3, q4, q5, q6, q7⟩ _ (by first | exact O6.out.below ((Below.refl _ _).alloc (Nat.le_refl _) _) | exact O6.out.weaken (by simp)) (by have := B5.out.size; simp at this; simp <;> omega) (by first | exact heap_alloc_new _ _ | exact (B5.out.block _ (by simp)).trans (heap_alloc_new _ _)) (by have := (O6.out.lt g5 rfl); simp at this ⊢; omega) hle4 SL.out).mono ?_; rintro e w6 ⟨v6, rfl, N6, hb6⟩; obtain ⟨g6, c6', rfl, hg6, H6⟩ := N6; have HH6 := hid H6; have B6 := hid hb6; have G6 := hid hg6; clear H6 hb6 hg6)
      | (go_at_call 71; refine (checked_yes _ _ _ (insQ l at' ⟨q1, q2, q3, q4, q5, q6, q7⟩) _ HH6.out (insQ_ok HO.out HQ.out) HM.out).mono ?_; rintro e w7 ⟨rfl, hb7⟩; have B7 := hid hb7; clear hb7))
    all_goals go_wp2
    all_goals
      have hB5 : Below w4.heap.size w4 w5 := by first | exact ⟨B5.out.os, B5.out.tape, B5.out.output, B5.out.size, B5.out.block⟩ | exact Below.trans ((Below.refl _ w4).alloc (Nat.le_refl _) _) (Below.mono ⟨B5.out.os, B5.out.tape, B5.out.output, B5.out.size, B5.out.block⟩ (by simp))
      have hB6 : Below w4.heap.size w4 w6 := by first | exact Below.trans hB5 B6.out | exact Below.trans hB5 (Below.trans ((Below.refl _ w5).alloc hB5.size _) B6.out)
      have hB7 : Below w.heap.size w w7 := (hB4.trans (hB6.mono hB4.size)).trans (B7.out.mono (Nat.le_trans hB4.size hB6.size))
      go_ret2
      rw [EM.out]
      exact ⟨⟨_, rfl, g6, c6', rfl, Nat.le_trans hB4.size G6.out, HH6.out.below B7.out⟩, hB7⟩
  · exact absurd HC.out h1.1


end Go.Proofs.Ytdomimpcjkajiaa
