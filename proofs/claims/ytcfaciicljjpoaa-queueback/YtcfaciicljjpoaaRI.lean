/-
  Contracts of queue: Drop; the document's answer for it.
-/
import Derived.Test.YtcfaciicljjpoaaRH
import Derived.Test.YtcfaciicljjpoaaRC
import Derived.Test.YtcfaciicljjpoaaRF
namespace Go.Proofs.Ytcfaciicljjpoaa
open Go.RowKit Go.Deep Go.Maps Go.Shelf
set_option linter.unusedVariables false

/-- What Drop answers. -/
def dropM (l : List Qu) (id : Int) : List Qu := l.take (pl l id) ++ l.drop (pl l id + 1)
def dropE (l : List Qu) (id : Int) : Int := if chkE l ≠ 0 then chkE l else if hasQ l id = false then 8 else if id = 0 then 4 else if leafB l id = false then 12 else 0
def dropR (l : List Qu) (id : Int) : List Qu := if dropE l id = 0 then dropM l id else []
theorem qa_at {l : List Qu} {i : Nat} (h : i < l.length) : l[i] = qa l i := by
  have := qa_get h
  rw [List.getElem?_eq_getElem h] at this
  exact Option.some.inj this
theorem dropM_len {l : List Qu} {id : Int} (h : pl l id < l.length) : (dropM l id).length = l.length - 1 := by
  unfold dropM; rw [List.length_append, List.length_take, List.length_drop]; omega
theorem pl_pos {l : List Qu} {id : Int} (hF : Form l) (h : pl l id < l.length) (h0 : id ≠ 0) : 0 < pl l id := by
  rcases Nat.eq_zero_or_pos (pl l id) with e | e
  · exfalso
    have h1 := pl_id h
    rw [e, hF.root.1] at h1
    exact h0 h1.symm
  · exact e
/-- All but one. -/
theorem filter_drop {l : List Qu} {id : Int} (hF : Form l) (h : pl l id < l.length) : l.filter (fun x => decide (x.id ≠ id)) = dropM l id := by
  have e : l = l.take (pl l id) ++ (qa l (pl l id) :: l.drop (pl l id + 1)) := by
    rw [← qa_at h, List.getElem_cons_drop, List.take_append_drop]
  have hne : ∀ i, i < l.length → i ≠ pl l id → (qa l i).id ≠ id := fun i hi hn he => hn (id_injR hF hi h (he.trans (pl_id h).symm))
  unfold dropM
  generalize hp : pl l id = p at *
  conv => lhs; rw [e]
  rw [List.filter_append, List.filter_cons_of_neg (by simp; rw [← hp]; exact pl_id (by rw [hp]; exact h))]
  congr 1
  · rw [List.filter_eq_self]
    intro x hx
    obtain ⟨i, hi, rfl⟩ := List.getElem_of_mem hx
    rw [List.length_take] at hi
    rw [List.getElem_take, qa_at (by omega)]
    simpa using hne i (by omega) (by omega)
  · rw [List.filter_eq_self]
    intro x hx
    obtain ⟨i, hi, rfl⟩ := List.getElem_of_mem hx
    rw [List.length_drop] at hi
    rw [List.getElem_drop, qa_at (by omega)]
    simpa using hne (p + 1 + i) (by omega) (by omega)
theorem HoldsE.dropZ {w : World} {b off len cap p : Nat} {l : List Qu} (h : HoldsQ w (some ⟨b, off, none⟩) len cap l) (hp : p ≤ len) (hc : cap = p) : HoldsQ w (some ⟨b, off, none⟩) (len - p) (cap - p) (l.drop p) := by
  obtain ⟨h1, h2, h3, h4, h5⟩ := h
  exact ⟨by rw [List.length_drop]; omega, by omega, by omega, (fun e => by cases e), fun hq => by omega⟩

set_option maxRecDepth 100000 in
set_option maxHeartbeats 4000000 in
theorem drop_list (a : Option Addr) (len cap : Nat) (l : List Qu) (id : Int) (w : World) (h : HoldsQ w a len cap l) (hok : ∀ x ∈ l, x.ok) (hi : I64 id) (hE : chkE l ≠ 0) :
    Calls Try.prog 17 #[.slice a len cap, .int .i64 id] w fun e w' => e = .returned (.tuple #[.slice none 0 0, .int .i64 (chkE l)]) ∧ Below w.heap.size w w' := by
  have HL := hid h.1
  have hcap0 := h.2.1
  have hcm := h.2.2.1
  have HH := hid h
  have HI := hid hi
  have HR := hid (read_any a len cap l w h hok)
  clear h hok hi
  have t : (chkE l != 0) = true := by simpa using hE
  have HE := hid hE
  clear hE
  generalize chkE l = E at *
  go_enter Try.func17, Try.ntmps17
  go_wp2_with fail
  refine HR.out.mono ?_
  rintro e w1 ⟨h1 | h1, hb1⟩
  · exact absurd h1.1 HE.out
  · obtain ⟨_, rfl⟩ := h1
    have hs1 := hb1.size
    go_wp2
    go_ret2
    exact ⟨rfl, (by repeat (first | exact Below.refl _ _ | assumption | refine Below.alloc ?_ (by first | omega | (simp <;> omega)) _ | refine Below.setCell ?_ (by first | omega | (simp <;> omega)) _ | refine Below.drew ?_ | refine below_drewN ?_ _))⟩

set_option maxRecDepth 100000 in
set_option maxHeartbeats 4000000 in
theorem drop_none (a : Option Addr) (len cap : Nat) (l : List Qu) (id : Int) (w : World) (h : HoldsQ w a len cap l) (hok : ∀ x ∈ l, x.ok) (hi : I64 id) (hC : chkE l = 0) (hX : hasQ l id = false) :
    Calls Try.prog 17 #[.slice a len cap, .int .i64 id] w fun e w' => e = .returned (.tuple #[.slice none 0 0, .int .i64 (8)]) ∧ Below w.heap.size w w' := by
  have HL := hid h.1
  have hcap0 := h.2.1
  have hcm := h.2.2.1
  have HH := hid h
  have HI := hid hi
  have HR := hid (read_any a len cap l w h hok)
  clear h hok hi
  have HC := hid hC
  have HX := hid hX
  clear hC hX
  go_enter Try.func17, Try.ntmps17
  go_wp2_with fail
  refine HR.out.mono ?_
  rintro e w1 ⟨h1 | h1, hb1⟩
  · obtain ⟨_, lb, off, mb, rfl, rfl, hT⟩ := h1
    have T1 := hid hT
    have hs1 := hb1.size
    have HT : Hid (Tree (w1.alloc (.cells #[.slice (some ⟨lb, off, none⟩) len cap, .map (some mb)] 56)) lb off len cap mb l) := T1.out.below ((Below.refl _ w1).alloc (Nat.le_refl _) _)
    clear hT HR T1
    go_wp2_with fail
    refine (has_any lb off len cap mb l id _ HT.out HI.out).mono ?_
    rintro e w2 ⟨rfl, hb2⟩
    rw [HX.out]
    have hB2 : Below w.heap.size w w2 := (hb1.alloc hs1 (.cells #[.slice (some ⟨lb, off, none⟩) len cap, .map (some mb)] 56)).trans (hb2.mono (by simp; omega))
    clear hb2
    go_wp2
    go_ret2
    exact ⟨rfl, hB2⟩
  · exact absurd HC.out h1.1

set_option maxRecDepth 100000 in
set_option maxHeartbeats 4000000 in
theorem drop_form (a : Option Addr) (len cap : Nat) (l : List Qu) (id : Int) (w : World) (h : HoldsQ w a len cap l) (hok : ∀ x ∈ l, x.ok) (hi : I64 id) (hC : chkE l = 0) (hX : hasQ l id = true) (h0 : id = 0) :
    Calls Try.prog 17 #[.slice a len cap, .int .i64 id] w fun e w' => e = .returned (.tuple #[.slice none 0 0, .int .i64 (4)]) ∧ Below w.heap.size w w' := by
  have HL := hid h.1
  have hcap0 := h.2.1
  have hcm := h.2.2.1
  have HH := hid h
  have HI := hid hi
  have HR := hid (read_any a len cap l w h hok)
  clear h hok hi
  have HC := hid hC
  have HX := hid hX
  clear hC hX
  subst h0
  go_enter Try.func17, Try.ntmps17
  go_wp2_with fail
  refine HR.out.mono ?_
  rintro e w1 ⟨h1 | h1, hb1⟩
  · obtain ⟨_, lb, off, mb, rfl, rfl, hT⟩ := h1
    have T1 := hid hT
    have hs1 := hb1.size
    have HT : Hid (Tree (w1.alloc (.cells #[.slice (some ⟨lb, off, none⟩) len cap, .map (some mb)] 56)) lb off len cap mb l) := T1.out.below ((Below.refl _ w1).alloc (Nat.le_refl _) _)
    clear hT HR T1
    go_wp2_with fail
    refine (has_any lb off len cap mb l 0 _ HT.out HI.out).mono ?_
    rintro e w2 ⟨rfl, hb2⟩
    rw [HX.out]
    have hB2 : Below w.heap.size w w2 := (hb1.alloc hs1 (.cells #[.slice (some ⟨lb, off, none⟩) len cap, .map (some mb)] 56)).trans (hb2.mono (by simp; omega))
    clear hb2
    go_wp2
    go_ret2
    exact ⟨rfl, hB2⟩
  · exact absurd HC.out h1.1

set_option maxRecDepth 100000 in
set_option maxHeartbeats 4000000 in
theorem drop_use (a : Option Addr) (len cap : Nat) (l : List Qu) (id : Int) (w : World) (h : HoldsQ w a len cap l) (hok : ∀ x ∈ l, x.ok) (hi : I64 id) (hC : chkE l = 0) (hX : hasQ l id = true) (h0 : id ≠ 0) (hF : leafB l id = false) :
    Calls Try.prog 17 #[.slice a len cap, .int .i64 id] w fun e w' => e = .returned (.tuple #[.slice none 0 0, .int .i64 (12)]) ∧ Below w.heap.size w w' := by
  have HL := hid h.1
  have hcap0 := h.2.1
  have hcm := h.2.2.1
  have HH := hid h
  have HI := hid hi
  have HR := hid (read_any a len cap l w h hok)
  clear h hok hi
  have HC := hid hC
  have HX := hid hX
  clear hC hX
  have t0' : (id == 0) = false := by simpa using h0
  have HF := hid hF
  have H0 := hid h0
  clear hF h0
  go_enter Try.func17, Try.ntmps17
  go_wp2_with fail
  refine HR.out.mono ?_
  rintro e w1 ⟨h1 | h1, hb1⟩
  · obtain ⟨_, lb, off, mb, rfl, rfl, hT⟩ := h1
    have T1 := hid hT
    have hs1 := hb1.size
    have HT : Hid (Tree (w1.alloc (.cells #[.slice (some ⟨lb, off, none⟩) len cap, .map (some mb)] 56)) lb off len cap mb l) := T1.out.below ((Below.refl _ w1).alloc (Nat.le_refl _) _)
    clear hT HR T1
    go_wp2_with fail
    refine (has_any lb off len cap mb l id _ HT.out HI.out).mono ?_
    rintro e w2 ⟨rfl, hb2⟩
    rw [HX.out]
    have hB2 : Below w.heap.size w w2 := (hb1.alloc hs1 (.cells #[.slice (some ⟨lb, off, none⟩) len cap, .map (some mb)] 56)).trans (hb2.mono (by simp; omega))
    have t0 := keepc hb2 (a := ⟨w1.heap.size, 0, none⟩) (v := .slice (some ⟨lb, off, none⟩) len cap) (by simp [go_sem])
    have t1 := keepc hb2 (a := ⟨w1.heap.size, 1, none⟩) (v := .map (some mb)) (by simp [go_sem])
    have T2 := hid (HT.out.below hb2)
    clear hb2 HT
    go_wp2_with fail
    refine (isLeaf_any lb off len cap mb l id w2 T2.out).mono ?_
    rintro e w3 ⟨rfl, hb3⟩
    rw [HF.out]
    have hB3 := hB2.trans (hb3.mono hB2.size)
    clear hb3
    go_wp2
    go_ret2
    exact ⟨rfl, hB3⟩
  · exact absurd HC.out h1.1

set_option maxRecDepth 100000 in
set_option maxHeartbeats 4000000 in
theorem drop_good (a : Option Addr) (len cap : Nat) (l : List Qu) (id : Int) (w : World) (h : HoldsQ w a len cap l) (hok : ∀ x ∈ l, x.ok) (hi : I64 id) (hC : chkE l = 0) (hX : hasQ l id = true) (h0 : id ≠ 0) (hF : leafB l id = true) :
    Calls Try.prog 17 #[.slice a len cap, .int .i64 id] w fun e w' => (∃ v, e = .returned (.tuple #[v, .int .i64 0]) ∧ NewQ w.heap.size w' v (len - 1) (dropM l id)) ∧ Below w.heap.size w w' := by
  have HL := hid h.1
  have hcap0 := h.2.1
  have hcm := h.2.2.1
  have HH := hid h
  have HI := hid hi
  have HR := hid (read_any a len cap l w h hok)
  clear h hok hi
  have HFm := hid (chkE_ok.1 hC).2.1
  have HC := hid hC
  have HX := hid hX
  clear hC hX
  have t0' : (id == 0) = false := by simpa using h0
  have HF := hid hF
  have H0 := hid h0
  clear hF h0
  go_enter Try.func17, Try.ntmps17
  go_wp2_with fail
  refine HR.out.mono ?_
  rintro e w1 ⟨h1 | h1, hb1⟩
  · obtain ⟨_, lb, off, mb, rfl, rfl, hT⟩ := h1
    have T1 := hid hT
    have hs1 := hb1.size
    have HT : Hid (Tree (w1.alloc (.cells #[.slice (some ⟨lb, off, none⟩) len cap, .map (some mb)] 56)) lb off len cap mb l) := T1.out.below ((Below.refl _ w1).alloc (Nat.le_refl _) _)
    clear hT HR T1
    go_wp2_with fail
    refine (has_any lb off len cap mb l id _ HT.out HI.out).mono ?_
    rintro e w2 ⟨rfl, hb2⟩
    rw [HX.out]
    have hB2 : Below w.heap.size w w2 := (hb1.alloc hs1 (.cells #[.slice (some ⟨lb, off, none⟩) len cap, .map (some mb)] 56)).trans (hb2.mono (by simp; omega))
    have t0 := keepc hb2 (a := ⟨w1.heap.size, 0, none⟩) (v := .slice (some ⟨lb, off, none⟩) len cap) (by simp [go_sem])
    have t1 := keepc hb2 (a := ⟨w1.heap.size, 1, none⟩) (v := .map (some mb)) (by simp [go_sem])
    have T2 := hid (HT.out.below hb2)
    clear hb2 HT
    go_wp2_with fail
    refine (isLeaf_any lb off len cap mb l id w2 T2.out).mono ?_
    rintro e w3 ⟨rfl, hb3⟩
    rw [HF.out]
    have hB3 := hB2.trans (hb3.mono hB2.size)
    have T3 := hid (T2.out.below hb3)
    have t2 := keepc hb3 t1
    have ltt := cell_lt t2
    simp only at ltt
    have PP0 : pl l id < l.length := of_decide_eq_true HX.out
    have PZ := pl_pos HFm.out PP0 H0.out
    have PP : pl l id < len := by rw [← HL.out]; exact PP0
    have L3 := T3.out.map.get HI.out PP
    have hs3 := hB3.size
    have H3 := hid (HH.out.below hB3)
    have hle3 := T3.out.hle
    have hlb : lb < w3.heap.size := T3.out.row.1
    have EM : Hid (dropM l id = l.take (pl l id) ++ l.drop (pl l id + 1)) := rfl
    clear hb3 t0 t1 T2 T3 PP0
    generalize pl l id = pp at *
    have K3 := hid (HoldsE.takeQ H3.out (Nat.le_of_lt PP))
    have pa : (0 : Int) ≤ (pp : Int) := by omega
    have pb : (pp : Int) ≤ (cap : Int) := by omega
    have pa2 : (0 : Int) ≤ (pp : Int) + 1 := by omega
    have pb2 : (pp : Int) + 1 ≤ (len : Int) := by omega
    have pc2 : (len : Int) ≤ (cap : Int) := by omega
    have pd2 : ((pp : Int) + 1).toNat = pp + 1 := by omega
    have pf : ¬ ((len : Int) < (pp : Int) + 1) := by omega
    have pg : ¬ ((cap : Int) < (pp : Int)) := by omega
    have pw : IntKind.i64.wrap ((pp : Int) + 1) = (pp : Int) + 1 := by rw [IntKind.wrap_i64]; omega
    have pw0 : IntKind.i64.wrap (pp : Int) = (pp : Int) := by rw [IntKind.wrap_i64]; omega
    have ph : (0 ≤ (pp : Int) + 1 → (len : Int) < (pp : Int) + 1) = False := by simp; omega
    by_cases hcp : cap = pp + 1
    · obtain rfl : len = cap := by omega
      subst hcp
      have D3 : Hid (HoldsQ w3 (some ⟨lb, off, none⟩) 0 0 []) := ⟨rfl, Nat.le_refl _, by omega, (fun e => by cases e), fun h => absurd h (by omega)⟩
      have ED : Hid (l.drop (pp + 1) = []) := List.drop_of_length_le (by rw [HL.out]; omega)
      go_wp2_with fail
      go_region_with ((go_at_call 51; refine (concat_two _ (some ⟨lb, off, none⟩) (some ⟨lb, off, none⟩) pp (pp + 1) 0 0 (l.take pp) [] _ (K3.out.below (by repeat (first | exact Below.refl _ _ | assumption | refine Below.alloc ?_ (by first | omega | (simp <;> omega)) _ | refine Below.setCell ?_ (by first | omega | (simp <;> omega)) _ | refine Below.drew ?_ | refine below_drewN ?_ _))) (D3.out.below (by repeat (first | exact Below.refl _ _ | assumption | refine Below.alloc ?_ (by first | omega | (simp <;> omega)) _ | refine Below.setCell ?_ (by first | omega | (simp <;> omega)) _ | refine Below.drew ?_ | refine below_drewN ?_ _))) (by simp [go_sem]) (by simp [go_sem]) (by omega) (by omega)).mono ?_; rintro e w4 ⟨v4, rfl, O4, hb4⟩; have HO4 := hid O4; have HB4 := hid hb4; clear O4 hb4))
      all_goals go_wp2
      all_goals
        have hB4 : Below w3.heap.size w3 w4 := Below.trans ((Below.refl _ w3).alloc (Nat.le_refl _) (.cells #[.slice (some ⟨lb, off, none⟩) pp (pp + 1), .slice (some ⟨lb, off, none⟩) 0 0] 22)) (Below.mono ⟨HB4.out.os, HB4.out.tape, HB4.out.output, HB4.out.size, HB4.out.block⟩ (by simp))
        have N4 := (HO4.out.weaken (b' := w.heap.size) (by simp; omega)).newQ (by omega)
        go_ret2
        rw [EM.out, ED.out]
        exact ⟨⟨_, rfl, N4⟩, hB3.trans (hB4.mono hB3.size)⟩
    · have hcp' : ¬ pp + 1 = cap := fun e => hcp e.symm
      have D3 := hid (HoldsE.dropQ H3.out (show pp + 1 ≤ len by omega))
      go_wp2_with fail
      go_region_with ((go_at_call 51; refine (concat_two _ (some ⟨lb, off, none⟩) (some ⟨lb, off + (pp + 1) * 7, none⟩) pp cap (len - (pp + 1)) (cap - (pp + 1)) (l.take pp) (l.drop (pp + 1)) _ (K3.out.below (by repeat (first | exact Below.refl _ _ | assumption | refine Below.alloc ?_ (by first | omega | (simp <;> omega)) _ | refine Below.setCell ?_ (by first | omega | (simp <;> omega)) _ | refine Below.drew ?_ | refine below_drewN ?_ _))) (D3.out.below (by repeat (first | exact Below.refl _ _ | assumption | refine Below.alloc ?_ (by first | omega | (simp <;> omega)) _ | refine Below.setCell ?_ (by first | omega | (simp <;> omega)) _ | refine Below.drew ?_ | refine below_drewN ?_ _))) (by simp [go_sem]) (by simp [go_sem]) (by omega) (by omega)).mono ?_; rintro e w4 ⟨v4, rfl, O4, hb4⟩; have HO4 := hid O4; have HB4 := hid hb4; clear O4 hb4))
      all_goals go_wp2
      all_goals
        have hB4 : Below w3.heap.size w3 w4 := Below.trans ((Below.refl _ w3).alloc (Nat.le_refl _) (.cells #[.slice (some ⟨lb, off, none⟩) pp cap, .slice (some ⟨lb, off + (pp + 1) * 7, none⟩) (len - (pp + 1)) (cap - (pp + 1))] 22)) (Below.mono ⟨HB4.out.os, HB4.out.tape, HB4.out.output, HB4.out.size, HB4.out.block⟩ (by simp))
        have N4 := (HO4.out.weaken (b' := w.heap.size) (by simp; omega)).newQ (by omega)
        rw [show pp + (len - (pp + 1)) = len - 1 by omega] at N4
        go_ret2
        rw [EM.out]
        exact ⟨⟨_, rfl, N4⟩, hB3.trans (hB4.mono hB3.size)⟩
  · exact absurd HC.out h1.1

/-- Drop. -/
theorem drop_any (a : Option Addr) (len cap : Nat) (l : List Qu) (id : Int) (w : World) (h : HoldsQ w a len cap l) (hok : ∀ x ∈ l, x.ok) (hi : I64 id) :
    Calls Try.prog 17 #[.slice a len cap, .int .i64 id] w fun e w' => ∃ v, e = .returned (.tuple #[v, .int .i64 (dropE l id)]) ∧ AnsQ w.heap.size w' v (dropR l id) ∧ Below w.heap.size w w' := by
  by_cases hC : chkE l = 0
  · cases hX : hasQ l id
    · have E : dropE l id = 8 := by unfold dropE; rw [if_neg (by rw [hC]; decide), if_pos hX]
      refine (drop_none a len cap l id w h hok hi hC hX).mono ?_
      rintro e w' ⟨rfl, hb⟩
      exact ⟨_, by rw [E], by unfold dropR; rw [E]; exact AnsQ.nil _ _, hb⟩
    · by_cases h0 : id = 0
      · have E : dropE l id = 4 := by unfold dropE; rw [if_neg (by rw [hC]; decide), if_neg (by rw [hX]; decide), if_pos h0]
        refine (drop_form a len cap l id w h hok hi hC hX h0).mono ?_
        rintro e w' ⟨rfl, hb⟩
        exact ⟨_, by rw [E], by unfold dropR; rw [E]; exact AnsQ.nil _ _, hb⟩
      · cases hF : leafB l id
        · have E : dropE l id = 12 := by unfold dropE; rw [if_neg (by rw [hC]; decide), if_neg (by rw [hX]; decide), if_neg h0, if_pos hF]
          refine (drop_use a len cap l id w h hok hi hC hX h0 hF).mono ?_
          rintro e w' ⟨rfl, hb⟩
          exact ⟨_, by rw [E], by unfold dropR; rw [E]; exact AnsQ.nil _ _, hb⟩
        · have E : dropE l id = 0 := by unfold dropE; rw [if_neg (by rw [hC]; decide), if_neg (by rw [hX]; decide), if_neg h0, if_neg (by rw [hF]; decide)]
          refine (drop_good a len cap l id w h hok hi hC hX h0 hF).mono ?_
          rintro e w' ⟨⟨v, rfl, hv⟩, hb⟩
          refine ⟨_, by rw [E], .inr ?_, hb⟩
          unfold dropR
          rw [if_pos E, dropM_len (of_decide_eq_true hX), h.1]
          exact hv
  · have E : dropE l id = chkE l := by unfold dropE; rw [if_pos hC]
    refine (drop_list a len cap l id w h hok hi hC).mono ?_
    rintro e w' ⟨rfl, hb⟩
    exact ⟨_, by rw [E], by unfold dropR; rw [E, if_neg hC]; exact AnsQ.nil _ _, hb⟩

end Go.Proofs.Ytcfaciicljjpoaa
