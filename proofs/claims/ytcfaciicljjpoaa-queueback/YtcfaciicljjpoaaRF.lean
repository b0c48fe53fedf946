/-
  The document's answer for queues: Add.
-/
import Derived.Test.YtcfaciicljjpoaaRE
namespace Go.Proofs.Ytcfaciicljjpoaa
open Go.RowKit Go.Deep Go.Maps Go.Shelf
set_option linter.unusedVariables false

theorem take_snoc {l : List Qu} {k : Nat} (h : k < l.length) : l.take (k + 1) = l.take k ++ [qa l k] := by
  rw [List.take_add_one, qa_get h]; rfl
theorem insQ_end {l : List Qu} {q : Qu} {k : Nat} (h : k = l.length) : insQ l k q = l.take k ++ [q] := by subst h; unfold insQ; simp
theorem insQ_at {l : List Qu} {q : Qu} {k : Nat} (h : k < l.length) : insQ (l.take (k + 1)) k q = (l.take k ++ [q]) ++ [qa l k] := by
  have hl : (l.take k).length = k := by simp; omega
  rw [take_snoc h]
  unfold insQ
  rw [List.take_left' hl, List.drop_left' hl]
  simp
theorem insQ_step {l : List Qu} {q : Qu} {s k : Nat} (hs : s < k) (h : k < l.length) : insQ (l.take (k + 1)) s q = insQ (l.take k) s q ++ [qa l k] := by
  have hl : s ≤ (l.take k).length := by simp; omega
  rw [take_snoc h]
  unfold insQ
  rw [List.take_append_of_le_length hl, List.drop_append_of_le_length hl]
  simp
def addA (l : List Qu) (q : Qu) : List Qu := if chkE (addM l q) = 0 then addM l q else []
theorem sp_ge {l : List Qu} {id : Int} (h : sp l id < l.length) : id ≤ (qa l (sp l id)).id := by
  have h1 := List.findIdx_getElem (xs := l) (p := fun q : Qu => decide (id ≤ q.id)) (w := h)
  have h2 : qa l (sp l id) = l[sp l id] := by have := qa_get h; rw [List.getElem?_eq_getElem h] at this; exact (Option.some.inj this).symm
  rw [h2]
  exact of_decide_eq_true h1
theorem push_q {ops : Array Oper} {rest : List Oper} {o : Oper} {a : Act} {Q : Exit → Act → World → Prop} (wr : World) (x : Qu) (hg : o.guard = none) (s y : Operand) (hop : o.op = Op.call { callee := Callee.builtin Builtin.append, args := #[s, y], argTypes := #[22, 22] })
    (base n : Nat) (v : Value) (l : List Qu) (hs : a.eval s = v) (hown : OwnQ base wr v n l) (hb : base ≤ wr.heap.size) (hx : a.eval y = .slice (some ⟨wr.heap.size, 0, none⟩) 1 1) (b1 : n + 1 ≤ 1000000)
    (hK : ∀ v' w', OwnQ base w' v' (n + 1) (l ++ [x]) → Below base wr w' → wr.grownBy w' v.ownBlock → wpList Try.prog ops Q rest (a.put o.dst v') w') :
    wpList Try.prog ops Q (o :: rest) a (wr.alloc (boxQ x)) :=
  push_ownE 22 26 _ 56 Qu.cs_len Qu.one Try.underlying22 infoQ rfl (by decide) wr x hg s y hop base n v l _ rfl hs hown hb hx (by omega) (by omega) hK
/-- A cell of a block that an append leaves. -/
theorem grown_cell {wr w' : World} {v : Value} {base n b o : Nat} {l : List Qu} {u : Value} (h : wr.grownBy w' v.ownBlock) (hown : OwnQ base wr v n l) (w0 : World) (hb : w0.heap.size ≤ b) (hs : OwnQ base w0 v n l) (hc : wr.cell? ⟨b, o, none⟩ = some u) : w'.cell? ⟨b, o, none⟩ = some u := by
  have hlt : b < wr.heap.size := cell_lt hc
  have hne : some b ≠ v.ownBlock := fun e => by
    have := (hs.lt b e.symm).2
    omega
  rw [World.cell?_of_block (h.block b hlt (fun e => hne (by first | exact e | exact e.symm)))]
  exact hc

set_option maxRecDepth 100000 in
set_option maxHeartbeats 4000000 in
theorem radd_list (a : Option Addr) (len cap : Nat) (l : List Qu) (q : Qu) (w : World) (h : HoldsQ w a len cap l) (hE : chkE l ≠ 0) :
    Calls Try.prog 14 #[.slice a len cap, qv q] w fun e w' => e = .returned (.tuple #[.slice none 0 0, .int .i64 (chkE l)]) ∧ Below w.heap.size w w' := by
  have HL := hid h.1
  have hcap0 := h.2.1
  have hcm := h.2.2.1
  have HC := hid (rcheckq_any a len cap l (w.alloc (boxQ q)) (h.below (by repeat (first | exact Below.refl _ _ | assumption | refine Below.alloc ?_ (by simp <;> omega) _ | refine Below.setCell ?_ (by simp <;> omega) _ | refine Below.drew ?_ | refine below_drewN ?_ _))))
  have HH := hid h
  clear h
  have t : (chkE l != 0) = true := by simpa using hE
  clear hE
  generalize chkE l = E at *
  obtain ⟨q1, q2, q3, q4, q5, q6, q7⟩ := q
  try simp only at *
  go_enter Try.func14, Try.ntmps14
  go_wp2_with fail
  refine HC.out.mono ?_
  rintro e w1 ⟨rfl, hb1⟩
  have hB1 : Below w.heap.size w w1 := Below.trans (by repeat (first | exact Below.refl _ _ | assumption | refine Below.alloc ?_ (by first | omega | (simp <;> omega)) _ | refine Below.setCell ?_ (by first | omega | (simp <;> omega)) _ | refine Below.drew ?_ | refine below_drewN ?_ _)) (hb1.mono (by simp))
  clear hb1
  go_wp2
  go_ret2
  exact ⟨rfl, hB1⟩

set_option maxRecDepth 100000 in
set_option maxHeartbeats 4000000 in
theorem radd_exists (a : Option Addr) (len cap : Nat) (l : List Qu) (q : Qu) (w : World) (h : HoldsQ w a len cap l) (hC : chkE l = 0) (hX : hasQ l q.id = true) :
    Calls Try.prog 14 #[.slice a len cap, qv q] w fun e w' => e = .returned (.tuple #[.slice none 0 0, .int .i64 (9)]) ∧ Below w.heap.size w w' := by
  have HL := hid h.1
  have hcap0 := h.2.1
  have hcm := h.2.2.1
  have HC := hid (rcheckq_any a len cap l (w.alloc (boxQ q)) (h.below (by repeat (first | exact Below.refl _ _ | assumption | refine Below.alloc ?_ (by simp <;> omega) _ | refine Below.setCell ?_ (by simp <;> omega) _ | refine Below.drew ?_ | refine below_drewN ?_ _))))
  have HH := hid h
  clear h
  have HX := hid hX
  rw [hC] at HC
  clear hC hX
  obtain ⟨q1, q2, q3, q4, q5, q6, q7⟩ := q
  try simp only at *
  go_enter Try.func14, Try.ntmps14
  go_wp2_with fail
  refine HC.out.mono ?_
  rintro e w1 ⟨rfl, hb1⟩
  have c0 := keepc hb1 (a := ⟨w.heap.size, 0, none⟩) (v := .int .i64 q1) (by simp [go_sem])
  have c1 := keepc hb1 (a := ⟨w.heap.size, 1, none⟩) (v := .int .i64 q2) (by simp [go_sem])
  have c2 := keepc hb1 (a := ⟨w.heap.size, 2, none⟩) (v := .int .i64 q3) (by simp [go_sem])
  have c3 := keepc hb1 (a := ⟨w.heap.size, 3, none⟩) (v := .int .i64 q4) (by simp [go_sem])
  have c4 := keepc hb1 (a := ⟨w.heap.size, 4, none⟩) (v := .int .i64 q5) (by simp [go_sem])
  have c5 := keepc hb1 (a := ⟨w.heap.size, 5, none⟩) (v := .int .i64 q6) (by simp [go_sem])
  have c6 := keepc hb1 (a := ⟨w.heap.size, 6, none⟩) (v := .int .i64 q7) (by simp [go_sem])
  have hB1 : Below w.heap.size w w1 := Below.trans (by repeat (first | exact Below.refl _ _ | assumption | refine Below.alloc ?_ (by first | omega | (simp <;> omega)) _ | refine Below.setCell ?_ (by first | omega | (simp <;> omega)) _ | refine Below.drew ?_ | refine below_drewN ?_ _)) (hb1.mono (by simp))
  have H1 := hid (HH.out.below hB1)
  clear hb1
  go_wp2_with fail
  refine (rhas_any a len cap l q1 w1 H1.out).mono ?_
  rintro e w2 ⟨rfl, hb2⟩
  rw [HX.out]
  have hB2 := hB1.trans (hb2.mono hB1.size)
  clear hb2
  go_wp2
  go_ret2
  exact ⟨rfl, hB2⟩

set_option maxRecDepth 100000 in
set_option maxHeartbeats 4000000 in
theorem radd_full (a : Option Addr) (len cap : Nat) (l : List Qu) (q : Qu) (w : World) (h : HoldsQ w a len cap l) (hC : chkE l = 0) (hX : hasQ l q.id = false) (hF : len = 64) :
    Calls Try.prog 14 #[.slice a len cap, qv q] w fun e w' => e = .returned (.tuple #[.slice none 0 0, .int .i64 (10)]) ∧ Below w.heap.size w w' := by
  have HL := hid h.1
  have hcap0 := h.2.1
  have hcm := h.2.2.1
  have HC := hid (rcheckq_any a len cap l (w.alloc (boxQ q)) (h.below (by repeat (first | exact Below.refl _ _ | assumption | refine Below.alloc ?_ (by simp <;> omega) _ | refine Below.setCell ?_ (by simp <;> omega) _ | refine Below.drew ?_ | refine below_drewN ?_ _))))
  have HH := hid h
  clear h
  have HX := hid hX
  rw [hC] at HC
  clear hC hX
  subst hF
  obtain ⟨q1, q2, q3, q4, q5, q6, q7⟩ := q
  try simp only at *
  go_enter Try.func14, Try.ntmps14
  go_wp2_with fail
  refine HC.out.mono ?_
  rintro e w1 ⟨rfl, hb1⟩
  have c0 := keepc hb1 (a := ⟨w.heap.size, 0, none⟩) (v := .int .i64 q1) (by simp [go_sem])
  have c1 := keepc hb1 (a := ⟨w.heap.size, 1, none⟩) (v := .int .i64 q2) (by simp [go_sem])
  have c2 := keepc hb1 (a := ⟨w.heap.size, 2, none⟩) (v := .int .i64 q3) (by simp [go_sem])
  have c3 := keepc hb1 (a := ⟨w.heap.size, 3, none⟩) (v := .int .i64 q4) (by simp [go_sem])
  have c4 := keepc hb1 (a := ⟨w.heap.size, 4, none⟩) (v := .int .i64 q5) (by simp [go_sem])
  have c5 := keepc hb1 (a := ⟨w.heap.size, 5, none⟩) (v := .int .i64 q6) (by simp [go_sem])
  have c6 := keepc hb1 (a := ⟨w.heap.size, 6, none⟩) (v := .int .i64 q7) (by simp [go_sem])
  have hB1 : Below w.heap.size w w1 := Below.trans (by repeat (first | exact Below.refl _ _ | assumption | refine Below.alloc ?_ (by first | omega | (simp <;> omega)) _ | refine Below.setCell ?_ (by first | omega | (simp <;> omega)) _ | refine Below.drew ?_ | refine below_drewN ?_ _)) (hb1.mono (by simp))
  have H1 := hid (HH.out.below hB1)
  clear hb1
  go_wp2_with fail
  refine (rhas_any a 64 cap l q1 w1 H1.out).mono ?_
  rintro e w2 ⟨rfl, hb2⟩
  rw [HX.out]
  have hB2 := hB1.trans (hb2.mono hB1.size)
  clear hb2
  go_wp2
  go_ret2
  exact ⟨rfl, hB2⟩

set_option maxRecDepth 100000 in
set_option maxHeartbeats 4000000 in
theorem radd_none (a : Option Addr) (len cap : Nat) (l : List Qu) (q : Qu) (w : World) (h : HoldsQ w a len cap l) (hC : chkE l = 0) (hX : hasQ l q.id = false) (hF : len ≠ 64) (hY : hasQ l q.par = false) :
    Calls Try.prog 14 #[.slice a len cap, qv q] w fun e w' => e = .returned (.tuple #[.slice none 0 0, .int .i64 (8)]) ∧ Below w.heap.size w w' := by
  have HL := hid h.1
  have hcap0 := h.2.1
  have hcm := h.2.2.1
  have HC := hid (rcheckq_any a len cap l (w.alloc (boxQ q)) (h.below (by repeat (first | exact Below.refl _ _ | assumption | refine Below.alloc ?_ (by simp <;> omega) _ | refine Below.setCell ?_ (by simp <;> omega) _ | refine Below.drew ?_ | refine below_drewN ?_ _))))
  have HH := hid h
  clear h
  have HY := hid hY
  clear hY
  have hle : len ≤ 64 := by rw [← HL.out]; exact (chkE_ok.1 hC).1
  have tf : decide ((64 : Int) ≤ (len : Int)) = false := by simp; omega
  have HX := hid hX
  rw [hC] at HC
  clear hC hX
  obtain ⟨q1, q2, q3, q4, q5, q6, q7⟩ := q
  try simp only at *
  go_enter Try.func14, Try.ntmps14
  go_wp2_with fail
  refine HC.out.mono ?_
  rintro e w1 ⟨rfl, hb1⟩
  have c0 := keepc hb1 (a := ⟨w.heap.size, 0, none⟩) (v := .int .i64 q1) (by simp [go_sem])
  have c1 := keepc hb1 (a := ⟨w.heap.size, 1, none⟩) (v := .int .i64 q2) (by simp [go_sem])
  have c2 := keepc hb1 (a := ⟨w.heap.size, 2, none⟩) (v := .int .i64 q3) (by simp [go_sem])
  have c3 := keepc hb1 (a := ⟨w.heap.size, 3, none⟩) (v := .int .i64 q4) (by simp [go_sem])
  have c4 := keepc hb1 (a := ⟨w.heap.size, 4, none⟩) (v := .int .i64 q5) (by simp [go_sem])
  have c5 := keepc hb1 (a := ⟨w.heap.size, 5, none⟩) (v := .int .i64 q6) (by simp [go_sem])
  have c6 := keepc hb1 (a := ⟨w.heap.size, 6, none⟩) (v := .int .i64 q7) (by simp [go_sem])
  have hB1 : Below w.heap.size w w1 := Below.trans (by repeat (first | exact Below.refl _ _ | assumption | refine Below.alloc ?_ (by first | omega | (simp <;> omega)) _ | refine Below.setCell ?_ (by first | omega | (simp <;> omega)) _ | refine Below.drew ?_ | refine below_drewN ?_ _)) (hb1.mono (by simp))
  have H1 := hid (HH.out.below hB1)
  clear hb1
  go_wp2_with fail
  refine (rhas_any a len cap l q1 w1 H1.out).mono ?_
  rintro e w2 ⟨rfl, hb2⟩
  rw [HX.out]
  have hB2 := hB1.trans (hb2.mono hB1.size)
  have HB12 := hid hb2
  have d0 := keepc hb2 c0
  have d1 := keepc hb2 c1
  have d2 := keepc hb2 c2
  have d3 := keepc hb2 c3
  have d4 := keepc hb2 c4
  have d5 := keepc hb2 c5
  have d6 := keepc hb2 c6
  clear hb2 c0 c1 c2 c3 c4 c5 c6
  go_wp2_with fail
  refine (rhas_any a len cap l q2 w2 (H1.out.below HB12.out)).mono ?_
  rintro e w3 ⟨rfl, hb3⟩
  rw [HY.out]
  have hB3 := hB2.trans (hb3.mono hB2.size)
  clear hb3
  go_wp2
  go_ret2
  exact ⟨rfl, hB3⟩

set_option maxRecDepth 100000 in
set_option maxHeartbeats 4000000 in
theorem radd_last (a : Option Addr) (len cap : Nat) (l : List Qu) (q : Qu) (w : World) (h : HoldsQ w a len cap l) (hC : chkE l = 0) (hX : hasQ l q.id = false) (hF : len ≠ 64) (hY : hasQ l q.par = true) :
    Calls Try.prog 14 #[.slice a len cap, qv q] w fun e w' => (∃ v, e = .returned (.tuple #[v, .int .i64 (chkE (addM l q))]) ∧ AnsQ w.heap.size w' v (addA l q)) ∧ Below w.heap.size w w' := by
  have HL := hid h.1
  have hcap0 := h.2.1
  have hcm := h.2.2.1
  have HC := hid (rcheckq_any a len cap l (w.alloc (boxQ q)) (h.below (by repeat (first | exact Below.refl _ _ | assumption | refine Below.alloc ?_ (by simp <;> omega) _ | refine Below.setCell ?_ (by simp <;> omega) _ | refine Below.drew ?_ | refine below_drewN ?_ _))))
  have HH := hid h
  clear h
  have HY := hid hY
  clear hY
  have hpl : 0 < len := by have := (chkE_ok.1 hC).2.1.1; rw [HL.out] at this; exact this
  have S1 : Hid (∀ k, k < sp l q.id → (qa l k).id < q.id) := fun k h => sp_lt h
  have S2 : Hid (sp l q.id < l.length → q.id < (qa l (sp l q.id)).id) := fun h => by
    have h1 : q.id ≤ (qa l (sp l q.id)).id := sp_ge h
    have h2 : (qa l (sp l q.id)).id ≠ q.id := fun e => by
      have : hasQ l q.id = true := hasQ_iff.2 ⟨_, h, e⟩
      rw [hX] at this; cases this
    omega
  have SL : sp l q.id ≤ len := by rw [← HL.out]; exact sp_le l q.id
  obtain ⟨b, off, rfl, R⟩ := HH.out.row hpl
  have HR := hid R
  clear R
  have hle : len ≤ 64 := by rw [← HL.out]; exact (chkE_ok.1 hC).1
  have tf : decide ((64 : Int) ≤ (len : Int)) = false := by simp; omega
  have HX := hid hX
  rw [hC] at HC
  clear hC hX
  obtain ⟨q1, q2, q3, q4, q5, q6, q7⟩ := q
  try simp only at *
  go_enter Try.func14, Try.ntmps14
  go_wp2_with fail
  refine HC.out.mono ?_
  rintro e w1 ⟨rfl, hb1⟩
  have c0 := keepc hb1 (a := ⟨w.heap.size, 0, none⟩) (v := .int .i64 q1) (by simp [go_sem])
  have c1 := keepc hb1 (a := ⟨w.heap.size, 1, none⟩) (v := .int .i64 q2) (by simp [go_sem])
  have c2 := keepc hb1 (a := ⟨w.heap.size, 2, none⟩) (v := .int .i64 q3) (by simp [go_sem])
  have c3 := keepc hb1 (a := ⟨w.heap.size, 3, none⟩) (v := .int .i64 q4) (by simp [go_sem])
  have c4 := keepc hb1 (a := ⟨w.heap.size, 4, none⟩) (v := .int .i64 q5) (by simp [go_sem])
  have c5 := keepc hb1 (a := ⟨w.heap.size, 5, none⟩) (v := .int .i64 q6) (by simp [go_sem])
  have c6 := keepc hb1 (a := ⟨w.heap.size, 6, none⟩) (v := .int .i64 q7) (by simp [go_sem])
  have hB1 : Below w.heap.size w w1 := Below.trans (by repeat (first | exact Below.refl _ _ | assumption | refine Below.alloc ?_ (by first | omega | (simp <;> omega)) _ | refine Below.setCell ?_ (by first | omega | (simp <;> omega)) _ | refine Below.drew ?_ | refine below_drewN ?_ _)) (hb1.mono (by simp))
  have H1 := hid (HH.out.below hB1)
  clear hb1
  go_wp2_with fail
  refine (rhas_any (some ⟨b, off, none⟩) len cap l q1 w1 H1.out).mono ?_
  rintro e w2 ⟨rfl, hb2⟩
  rw [HX.out]
  have hB2 := hB1.trans (hb2.mono hB1.size)
  have HB12 := hid hb2
  have d0 := keepc hb2 c0
  have d1 := keepc hb2 c1
  have d2 := keepc hb2 c2
  have d3 := keepc hb2 c3
  have d4 := keepc hb2 c4
  have d5 := keepc hb2 c5
  have d6 := keepc hb2 c6
  clear hb2 c0 c1 c2 c3 c4 c5 c6
  go_wp2_with fail
  refine (rhas_any (some ⟨b, off, none⟩) len cap l q2 w2 (H1.out.below HB12.out)).mono ?_
  rintro e w3 ⟨rfl, hb3⟩
  rw [HY.out]
  have hB3 := hB2.trans (hb3.mono hB2.size)
  have f0 := hid (keepc hb3 d0)
  have f1 := hid (keepc hb3 d1)
  have f2 := hid (keepc hb3 d2)
  have f3 := hid (keepc hb3 d3)
  have f4 := hid (keepc hb3 d4)
  have f5 := hid (keepc hb3 d5)
  have f6 := hid (keepc hb3 d6)
  have R3 := hid (HR.out.below hB3)
  have ltq := cell_lt f0.out
  simp only at ltq
  have EM : Hid (addM l ⟨q1, q2, q3, q4, q5, q6, q7⟩ = insQ l (sp l q1) ⟨q1, q2, q3, q4, q5, q6, q7⟩) := rfl
  generalize sp l q1 = S at *
  clear hb3 d0 d1 d2 d3 d4 d5 d6 HC H1 HB12
  go_wp2_with fail
  go_loopw [7, 8, 36] (fun m p i wr => ∃ k : Nat, k ≤ len ∧ i = .int .i64 k ∧ ((p = .bool false ∧ k ≤ S ∧ Hid (OwnQ w3.heap.size wr m k (l.take k))) ∨ (p = .bool true ∧ S < k ∧ Hid (OwnQ w3.heap.size wr m (k + 1) (insQ (l.take k) S ⟨q1, q2, q3, q4, q5, q6, q7⟩)))) ∧ Below w3.heap.size w3 wr) (fun _ _ i _ => len - (intOf i).toNat)
  case atStart => exact ⟨0, by omega, rfl, .inl ⟨rfl, by omega, OwnE.nil _ _ _ _ _⟩, Below.refl _ _⟩
  case round =>
    obtain ⟨k, hk, rfl, hcase, hB⟩ := hrel
    have hws := hB.size
    by_cases hlt : k < len
    · have hlt' : k < l.length := by rw [HL.out]; exact hlt
      obtain ⟨e0, e1, e2, e3, e4, e5, e6⟩ := (R3.out.below hB).2 k hlt'
      rcases hcase with ⟨rfl, hkS, ho⟩ | ⟨rfl, hkS, ho⟩
      · by_cases hkk : k = S
        · have tx := S2.out (by omega)
          rw [← hkk] at tx
          have HKK := hid hkk
          clear hkk
          have K1 := hid (insQ_at (q := ⟨q1, q2, q3, q4, q5, q6, q7⟩) hlt')
          generalize qa l k = x at *
          obtain ⟨x1, x2, x3, x4, x5, x6, x7⟩ := x
          simp only at *
          have tx' : decide (q1 < x1) = true := by simp; omega
          have ho2 := hid (ho.out.below ((Below.refl _ wr).alloc (Nat.le_refl _) (.cells #[.int .i64 x1, .int .i64 x2, .int .i64 x3, .int .i64 x4, .int .i64 x5, .int .i64 x6, .int .i64 x7] 26)))
          have hB2' := hB.alloc hB.size (.cells #[.int .i64 x1, .int .i64 x2, .int .i64 x3, .int .i64 x4, .int .i64 x5, .int .i64 x6, .int .i64 x7] 26)
          have g0 := keepc hB2' f0.out
          have g1 := keepc hB2' f1.out
          have g2 := keepc hB2' f2.out
          have g3 := keepc hB2' f3.out
          have g4 := keepc hB2' f4.out
          have g5 := keepc hB2' f5.out
          have g6 := keepc hB2' f6.out
          clear tx
          go_wp2_with (at_builtin; refine push_q (wr.alloc (.cells #[.int .i64 x1, .int .i64 x2, .int .i64 x3, .int .i64 x4, .int .i64 x5, .int .i64 x6, .int .i64 x7] 26)) ⟨q1, q2, q3, q4, q5, q6, q7⟩ rfl (.tmp 49) (.tmp 51) rfl w3.heap.size k u7 (l.take k) rfl ho2.out hB2'.size (by simp [Act.eval]) (by omega) ?_)
          intro v1 w4 O4 b4 g4
          have y0 := grown_cell (b := wr.heap.size) (o := 0) (u := .int .i64 x1) g4 ho2.out wr (Nat.le_refl _) ho.out (by simp [go_sem])
          have y1 := grown_cell (b := wr.heap.size) (o := 1) (u := .int .i64 x2) g4 ho2.out wr (Nat.le_refl _) ho.out (by simp [go_sem])
          have y2 := grown_cell (b := wr.heap.size) (o := 2) (u := .int .i64 x3) g4 ho2.out wr (Nat.le_refl _) ho.out (by simp [go_sem])
          have y3 := grown_cell (b := wr.heap.size) (o := 3) (u := .int .i64 x4) g4 ho2.out wr (Nat.le_refl _) ho.out (by simp [go_sem])
          have y4 := grown_cell (b := wr.heap.size) (o := 4) (u := .int .i64 x5) g4 ho2.out wr (Nat.le_refl _) ho.out (by simp [go_sem])
          have y5 := grown_cell (b := wr.heap.size) (o := 5) (u := .int .i64 x6) g4 ho2.out wr (Nat.le_refl _) ho.out (by simp [go_sem])
          have y6 := grown_cell (b := wr.heap.size) (o := 6) (u := .int .i64 x7) g4 ho2.out wr (Nat.le_refl _) ho.out (by simp [go_sem])
          have HO4 := hid O4
          have hB4 := hB2'.trans b4
          clear O4 b4 g4 e0 e1 e2 e3 e4 e5 e6
          go_wp2_with (at_builtin; refine push_q w4 ⟨x1, x2, x3, x4, x5, x6, x7⟩ rfl (.tmp 53) (.tmp 55) rfl w3.heap.size (k + 1) v1 (l.take k ++ [⟨q1, q2, q3, q4, q5, q6, q7⟩]) rfl HO4.out hB4.size rfl (by omega) ?_)
          intro v2 w5 O5 b5 _
          have HO5 := hid O5
          have hB5 := hB4.trans b5
          clear O5 b5
          go_wp2
          go_roundw
          case rel => exact ⟨k + 1, by omega, by go_num, .inr ⟨rfl, by have := HKK.out; omega, by rw [← HKK.out, K1.out]; first | exact HO5 | (rw [List.append_assoc]; exact HO5)⟩, hB5⟩
          case measure => simp [intOf]; omega
        · have tx := S1.out k (by omega)
          have K1 := hid (take_snoc hlt')
          generalize qa l k = x at *
          obtain ⟨x1, x2, x3, x4, x5, x6, x7⟩ := x
          simp only at *
          have tx' : decide (q1 < x1) = false := by simp; omega
          have ho2 := hid (ho.out.below ((Below.refl _ wr).alloc (Nat.le_refl _) (.cells #[.int .i64 x1, .int .i64 x2, .int .i64 x3, .int .i64 x4, .int .i64 x5, .int .i64 x6, .int .i64 x7] 26)))
          have hB2' := hB.alloc hB.size (.cells #[.int .i64 x1, .int .i64 x2, .int .i64 x3, .int .i64 x4, .int .i64 x5, .int .i64 x6, .int .i64 x7] 26)
          have g0 := keepc hB2' f0.out
          clear tx
          go_wp2_with (at_builtin; refine push_q (wr.alloc (.cells #[.int .i64 x1, .int .i64 x2, .int .i64 x3, .int .i64 x4, .int .i64 x5, .int .i64 x6, .int .i64 x7] 26)) ⟨x1, x2, x3, x4, x5, x6, x7⟩ rfl (.tmp 53) (.tmp 55) rfl w3.heap.size k u7 (l.take k) rfl ho2.out hB2'.size (by simp [Act.eval]) (by omega) ?_)
          intro v2 w5 O5 b5 _
          have HO5 := hid O5
          have hB5 := hB2'.trans b5
          clear O5 b5
          go_wp2
          go_roundw
          case rel => exact ⟨k + 1, by omega, by go_num, .inl ⟨rfl, by omega, by rw [K1.out]; exact HO5⟩, hB5⟩
          case measure => simp [intOf]; omega
      · have K1 := hid (insQ_step (q := ⟨q1, q2, q3, q4, q5, q6, q7⟩) hkS hlt')
        generalize qa l k = x at *
        obtain ⟨x1, x2, x3, x4, x5, x6, x7⟩ := x
        simp only at *
        have ho2 := hid (ho.out.below ((Below.refl _ wr).alloc (Nat.le_refl _) (.cells #[.int .i64 x1, .int .i64 x2, .int .i64 x3, .int .i64 x4, .int .i64 x5, .int .i64 x6, .int .i64 x7] 26)))
        have hB2' := hB.alloc hB.size (.cells #[.int .i64 x1, .int .i64 x2, .int .i64 x3, .int .i64 x4, .int .i64 x5, .int .i64 x6, .int .i64 x7] 26)
        go_wp2_with (at_builtin; refine push_q (wr.alloc (.cells #[.int .i64 x1, .int .i64 x2, .int .i64 x3, .int .i64 x4, .int .i64 x5, .int .i64 x6, .int .i64 x7] 26)) ⟨x1, x2, x3, x4, x5, x6, x7⟩ rfl (.tmp 53) (.tmp 55) rfl w3.heap.size (k + 1) u7 (insQ (l.take k) S ⟨q1, q2, q3, q4, q5, q6, q7⟩) rfl ho2.out hB2'.size (by simp [Act.eval]) (by omega) ?_)
        intro v2 w5 O5 b5 _
        have HO5 := hid O5
        have hB5 := hB2'.trans b5
        clear O5 b5
        go_wp2
        go_roundw
        case rel => exact ⟨k + 1, by omega, by go_num, .inr ⟨rfl, by omega, by rw [K1.out]; exact HO5⟩, hB5⟩
        case measure => simp [intOf]; omega
    · have hkl : k = l.length := by rw [HL.out]; omega
      have LI : Hid ((insQ l S ⟨q1, q2, q3, q4, q5, q6, q7⟩).length = len + 1) := by unfold Hid; rw [insQ_len (by rw [HL.out]; omega), HL.out]
      rcases hcase with ⟨rfl, hkS, ho⟩ | ⟨rfl, hkS, ho⟩
      · have hSk : S = l.length := by have := HL.out; omega
        have K1 := hid (insQ_end (q := ⟨q1, q2, q3, q4, q5, q6, q7⟩) hSk)
        rw [show k = S by omega] at ho
        have HSK := hid hSk
        clear hSk hkl hkS
        have g0 := keepc hB f0.out
        have g1 := keepc hB f1.out
        have g2 := keepc hB f2.out
        have g3 := keepc hB f3.out
        have g4 := keepc hB f4.out
        have g5 := keepc hB f5.out
        have g6 := keepc hB f6.out
        go_wp2_with (at_builtin; refine push_q wr ⟨q1, q2, q3, q4, q5, q6, q7⟩ rfl (.tmp 60) (.tmp 62) rfl w3.heap.size S u7 (l.take S) rfl ho.out hB.size rfl (by omega) ?_)
        intro v2 w5 O5 b5 _
        have hB5 := hB.trans b5
        replace O5 : OwnQ w3.heap.size w5 v2 (len + 1) (insQ l S ⟨q1, q2, q3, q4, q5, q6, q7⟩) := by
          rw [K1.out, HSK.out, List.take_length]
          rw [← HL.out]
          first | exact O5 | (rw [HSK.out, List.take_length] at O5; exact O5)
        obtain ⟨g, c, rfl⟩ := own_pos O5 (by omega)
        have N5 := hid (OwnE.newQ O5 (by omega))
        have H5 := hid (O5.holds Qu.cs_len)
        have HB5 := hid (hB3.trans (hB5.mono hB3.size))
        clear O5
        go_wp2_with fail
        by_cases HM : chkE (insQ l S ⟨q1, q2, q3, q4, q5, q6, q7⟩) = 0
        · have CH := hid (done_yes (some ⟨g, 0, none⟩) (len + 1) c (insQ l S ⟨q1, q2, q3, q4, q5, q6, q7⟩) w5 H5.out HM)
          have EN : Hid (chkE (insQ l S ⟨q1, q2, q3, q4, q5, q6, q7⟩) = 0) := HM
          clear HM
          refine CH.out.mono ?_
          rintro e w6 ⟨rfl, hb6⟩
          have hB7 : Below w.heap.size w w6 := HB5.out.trans (hb6.mono HB5.out.size)
          have H6 := hid (H5.out.below hb6)
          have G6 : Hid (w3.heap.size ≤ g) := by obtain ⟨g', c', e, hg, _⟩ := N5.out; cases e; exact hg
          clear hb6
          go_wp2
          go_ret2
          unfold addA
          rw [EM.out, EN.out]
          refine ⟨⟨_, rfl, .inr ?_⟩, hB7⟩
          rw [if_pos rfl, LI.out]
          exact ⟨g, c, rfl, Nat.le_trans hB3.size G6.out, H6.out⟩
        · have CH := hid (done_no (some ⟨g, 0, none⟩) (len + 1) c (insQ l S ⟨q1, q2, q3, q4, q5, q6, q7⟩) w5 H5.out HM)
          have EN : Hid (¬ chkE (insQ l S ⟨q1, q2, q3, q4, q5, q6, q7⟩) = 0) := HM
          clear HM
          refine CH.out.mono ?_
          rintro e w6 ⟨rfl, hb6⟩
          have hB7 : Below w.heap.size w w6 := HB5.out.trans (hb6.mono HB5.out.size)
          clear hb6
          obtain ⟨E, hE⟩ : ∃ E, E = chkE (insQ l S ⟨q1, q2, q3, q4, q5, q6, q7⟩) := ⟨_, rfl⟩
          rw [← hE] at EN ⊢
          have HE := hid hE
          clear hE
          go_wp2
          go_ret2
          unfold addA
          rw [EM.out, ← HE.out]
          exact ⟨⟨_, rfl, by rw [if_neg EN.out]; exact AnsQ.nil _ _⟩, hB7⟩
      · rw [hkl, List.take_length] at ho
        have O5 := ho.out
        rw [show l.length + 1 = len + 1 by have := HL.out; omega] at O5
        obtain ⟨w5, hw5⟩ : ∃ w5, w5 = wr := ⟨_, rfl⟩
        rw [← hw5] at O5 hB ⊢
        have hB5 := hB
        clear hw5
        obtain ⟨v2, hv2⟩ : ∃ v2, v2 = u7 := ⟨_, rfl⟩
        rw [← hv2] at O5 ⊢
        clear hv2 ho
        obtain ⟨g, c, rfl⟩ := own_pos O5 (by omega)
        have N5 := hid (OwnE.newQ O5 (by omega))
        have H5 := hid (O5.holds Qu.cs_len)
        have HB5 := hid (hB3.trans (hB5.mono hB3.size))
        clear O5
        go_wp2_with fail
        by_cases HM : chkE (insQ l S ⟨q1, q2, q3, q4, q5, q6, q7⟩) = 0
        · have CH := hid (done_yes (some ⟨g, 0, none⟩) (len + 1) c (insQ l S ⟨q1, q2, q3, q4, q5, q6, q7⟩) w5 H5.out HM)
          have EN : Hid (chkE (insQ l S ⟨q1, q2, q3, q4, q5, q6, q7⟩) = 0) := HM
          clear HM
          refine CH.out.mono ?_
          rintro e w6 ⟨rfl, hb6⟩
          have hB7 : Below w.heap.size w w6 := HB5.out.trans (hb6.mono HB5.out.size)
          have H6 := hid (H5.out.below hb6)
          have G6 : Hid (w3.heap.size ≤ g) := by obtain ⟨g', c', e, hg, _⟩ := N5.out; cases e; exact hg
          clear hb6
          go_wp2
          go_ret2
          unfold addA
          rw [EM.out, EN.out]
          refine ⟨⟨_, rfl, .inr ?_⟩, hB7⟩
          rw [if_pos rfl, LI.out]
          exact ⟨g, c, rfl, Nat.le_trans hB3.size G6.out, H6.out⟩
        · have CH := hid (done_no (some ⟨g, 0, none⟩) (len + 1) c (insQ l S ⟨q1, q2, q3, q4, q5, q6, q7⟩) w5 H5.out HM)
          have EN : Hid (¬ chkE (insQ l S ⟨q1, q2, q3, q4, q5, q6, q7⟩) = 0) := HM
          clear HM
          refine CH.out.mono ?_
          rintro e w6 ⟨rfl, hb6⟩
          have hB7 : Below w.heap.size w w6 := HB5.out.trans (hb6.mono HB5.out.size)
          clear hb6
          obtain ⟨E, hE⟩ : ∃ E, E = chkE (insQ l S ⟨q1, q2, q3, q4, q5, q6, q7⟩) := ⟨_, rfl⟩
          rw [← hE] at EN ⊢
          have HE := hid hE
          clear hE
          go_wp2
          go_ret2
          unfold addA
          rw [EM.out, ← HE.out]
          exact ⟨⟨_, rfl, by rw [if_neg EN.out]; exact AnsQ.nil _ _⟩, hB7⟩

theorem radd_any5 (a : Option Addr) (len cap : Nat) (l : List Qu) (q : Qu) (w : World) (h : HoldsQ w a len cap l) :
    Calls Try.prog 14 #[.slice a len cap, qv q] w fun e w' => ∃ v, e = .returned (.tuple #[v, .int .i64 (addE l q)]) ∧ AnsQ w.heap.size w' v (addR l q) ∧ Below w.heap.size w w' := by
  have hl := h.1
  by_cases hC : chkE l = 0
  · cases hX : hasQ l q.id
    · by_cases hF : len = 64
      · have E : addE l q = 10 := by unfold addE; rw [if_neg (by rw [hC]; decide), if_neg (by rw [hX]; decide), if_pos (by rw [hl]; exact hF)]
        refine (radd_full a len cap l q w h hC hX hF).mono ?_
        rintro e w' ⟨rfl, hb⟩
        exact ⟨_, by rw [E], by unfold addR; rw [E]; exact AnsQ.nil _ _, hb⟩
      · cases hY : hasQ l q.par
        · have E : addE l q = 8 := by unfold addE; rw [if_neg (by rw [hC]; decide), if_neg (by rw [hX]; decide), if_neg (by rw [hl]; exact hF), if_pos hY]
          refine (radd_none a len cap l q w h hC hX hF hY).mono ?_
          rintro e w' ⟨rfl, hb⟩
          exact ⟨_, by rw [E], by unfold addR; rw [E]; exact AnsQ.nil _ _, hb⟩
        · have E : addE l q = chkE (addM l q) := by unfold addE; rw [if_neg (by rw [hC]; decide), if_neg (by rw [hX]; decide), if_neg (by rw [hl]; exact hF), if_neg (by rw [hY]; decide)]
          refine (radd_last a len cap l q w h hC hX hF hY).mono ?_
          rintro e w' ⟨⟨v, rfl, hv⟩, hb⟩
          exact ⟨_, by rw [E], by unfold addR; rw [E]; unfold addA at hv; exact hv, hb⟩
    · have E : addE l q = 9 := by unfold addE; rw [if_neg (by rw [hC]; decide), if_pos hX]
      refine (radd_exists a len cap l q w h hC hX).mono ?_
      rintro e w' ⟨rfl, hb⟩
      exact ⟨_, by rw [E], by unfold addR; rw [E]; exact AnsQ.nil _ _, hb⟩
  · have E : addE l q = chkE l := by unfold addE; rw [if_pos hC]
    refine (radd_list a len cap l q w h hC).mono ?_
    rintro e w' ⟨rfl, hb⟩
    exact ⟨_, by rw [E], by unfold addR; rw [E, if_neg hC]; exact AnsQ.nil _ _, hb⟩

end Go.Proofs.Ytcfaciicljjpoaa
