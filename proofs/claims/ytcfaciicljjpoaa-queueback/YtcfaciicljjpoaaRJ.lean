/-
  The document's answer for queues: Drop.
-/
import Derived.Test.YtcfaciicljjpoaaRI
namespace Go.Proofs.Ytcfaciicljjpoaa
open Go.RowKit Go.Deep Go.Maps Go.Shelf
set_option linter.unusedVariables false

def outTo (l : List Qu) (id : Int) (k : Nat) : List Qu := (l.take k).filter (fun x => decide (x.id ≠ id))
theorem outTo_yes {l : List Qu} {id : Int} {k : Nat} (h : k < l.length) (e : (qa l k).id ≠ id) : outTo l id (k + 1) = outTo l id k ++ [qa l k] := by
  unfold outTo; rw [take_snoc h, List.filter_append]; simp [e]
theorem outTo_no {l : List Qu} {id : Int} {k : Nat} (h : k < l.length) (e : (qa l k).id = id) : outTo l id (k + 1) = outTo l id k := by
  unfold outTo; rw [take_snoc h, List.filter_append]; simp [e]
theorem outTo_len (l : List Qu) (id : Int) (k : Nat) : (outTo l id k).length ≤ l.length := by
  unfold outTo
  have := List.length_filter_le (fun x : Qu => decide (x.id ≠ id)) (l.take k)
  rw [List.length_take] at this
  omega

set_option maxRecDepth 100000 in
set_option maxHeartbeats 4000000 in
theorem rdrop_list (a : Option Addr) (len cap : Nat) (l : List Qu) (id : Int) (w : World) (h : HoldsQ w a len cap l) (hE : chkE l ≠ 0) :
    Calls Try.prog 18 #[.slice a len cap, .int .i64 id] w fun e w' => e = .returned (.tuple #[.slice none 0 0, .int .i64 (chkE l)]) ∧ Below w.heap.size w w' := by
  have HL := hid h.1
  have hcap0 := h.2.1
  have hcm := h.2.2.1
  have HC := hid (rcheckq_any a len cap l w h)
  have HH := hid h
  clear h
  have t : (chkE l != 0) = true := by simpa using hE
  clear hE
  generalize chkE l = E at *
  go_enter Try.func18, Try.ntmps18
  go_wp2_with fail
  refine HC.out.mono ?_
  rintro e w1 ⟨rfl, hb1⟩
  go_wp2
  go_ret2
  exact ⟨rfl, hb1⟩

set_option maxRecDepth 100000 in
set_option maxHeartbeats 4000000 in
theorem rdrop_none (a : Option Addr) (len cap : Nat) (l : List Qu) (id : Int) (w : World) (h : HoldsQ w a len cap l) (hC : chkE l = 0) (hX : hasQ l id = false) :
    Calls Try.prog 18 #[.slice a len cap, .int .i64 id] w fun e w' => e = .returned (.tuple #[.slice none 0 0, .int .i64 (8)]) ∧ Below w.heap.size w w' := by
  have HL := hid h.1
  have hcap0 := h.2.1
  have hcm := h.2.2.1
  have HC := hid (rcheckq_any a len cap l w h)
  have HH := hid h
  clear h
  have HX := hid hX
  rw [hC] at HC
  clear hC hX
  go_enter Try.func18, Try.ntmps18
  go_wp2_with fail
  refine HC.out.mono ?_
  rintro e w1 ⟨rfl, hb1⟩
  go_wp2_with fail
  refine (rhas_any a len cap l id w1 (HH.out.below hb1)).mono ?_
  rintro e w2 ⟨rfl, hb2⟩
  rw [HX.out]
  have hB2 := hb1.trans (hb2.mono hb1.size)
  clear hb2
  go_wp2
  go_ret2
  exact ⟨rfl, hB2⟩

set_option maxRecDepth 100000 in
set_option maxHeartbeats 4000000 in
theorem rdrop_form (a : Option Addr) (len cap : Nat) (l : List Qu) (id : Int) (w : World) (h : HoldsQ w a len cap l) (hC : chkE l = 0) (hX : hasQ l id = true) (h0 : id = 0) :
    Calls Try.prog 18 #[.slice a len cap, .int .i64 id] w fun e w' => e = .returned (.tuple #[.slice none 0 0, .int .i64 (4)]) ∧ Below w.heap.size w w' := by
  have HL := hid h.1
  have hcap0 := h.2.1
  have hcm := h.2.2.1
  have HC := hid (rcheckq_any a len cap l w h)
  have HH := hid h
  clear h
  have HX := hid hX
  rw [hC] at HC
  clear hC hX
  subst h0
  go_enter Try.func18, Try.ntmps18
  go_wp2_with fail
  refine HC.out.mono ?_
  rintro e w1 ⟨rfl, hb1⟩
  go_wp2_with fail
  refine (rhas_any a len cap l 0 w1 (HH.out.below hb1)).mono ?_
  rintro e w2 ⟨rfl, hb2⟩
  rw [HX.out]
  have hB2 := hb1.trans (hb2.mono hb1.size)
  clear hb2
  go_wp2
  go_ret2
  exact ⟨rfl, hB2⟩

set_option maxRecDepth 100000 in
set_option maxHeartbeats 4000000 in
theorem rdrop_use (a : Option Addr) (len cap : Nat) (l : List Qu) (id : Int) (w : World) (h : HoldsQ w a len cap l) (hC : chkE l = 0) (hX : hasQ l id = true) (h0 : id ≠ 0) (hF : leafB l id = false) :
    Calls Try.prog 18 #[.slice a len cap, .int .i64 id] w fun e w' => e = .returned (.tuple #[.slice none 0 0, .int .i64 (12)]) ∧ Below w.heap.size w w' := by
  have HL := hid h.1
  have hcap0 := h.2.1
  have hcm := h.2.2.1
  have HC := hid (rcheckq_any a len cap l w h)
  have HH := hid h
  clear h
  have hle : len ≤ 64 := by rw [← HL.out]; exact (chkE_ok.1 hC).1
  have hpl : 0 < len := by have := (chkE_ok.1 hC).2.1.1; rw [HL.out] at this; exact this
  have HFm := hid (chkE_ok.1 hC).2.1
  obtain ⟨b, off, rfl, R⟩ := HH.out.row hpl
  have HR := hid R
  clear R
  have t0 : (id == 0) = false := by simpa using h0
  have HF : Hid (decide ((0 : Int) < ((idsAt l (kids l id)).length : Int)) = !leafB l id) := by
    unfold Hid leafB idsAt
    cases kids l id with
    | nil => rfl
    | cons x y => simp <;> omega
  rw [hF] at HF
  clear h0 hF
  have HX := hid hX
  rw [hC] at HC
  clear hC hX
  go_enter Try.func18, Try.ntmps18
  go_wp2_with fail
  refine HC.out.mono ?_
  rintro e w1 ⟨rfl, hb1⟩
  go_wp2_with fail
  refine (rhas_any (some ⟨b, off, none⟩) len cap l id w1 (HH.out.below hb1)).mono ?_
  rintro e w2 ⟨rfl, hb2⟩
  rw [HX.out]
  have hB2 := hb1.trans (hb2.mono hb1.size)
  clear hb2
  go_wp2_with fail
  refine (rchildren_any b off len cap l id w2 (HH.out.below hB2) hpl hle).mono ?_
  rintro e w3 ⟨v3, rfl, o3, hb3⟩
  unfold AnsN at o3
  obtain ⟨a3, c3, rfl⟩ := o3.form
  have hB3 := hB2.trans (hb3.mono hB2.size)
  have tf := HF.out
  clear o3 hb3 HF
  generalize (idsAt l (kids l id)).length = nk at *
  have tn : 0 < nk := by simpa using tf
  have tk : decide (0 < nk) = true := by simp; omega
  go_wp2
  go_ret2
  exact ⟨rfl, hB3⟩

set_option maxRecDepth 100000 in
set_option maxHeartbeats 4000000 in
theorem rdrop_good (a : Option Addr) (len cap : Nat) (l : List Qu) (id : Int) (w : World) (h : HoldsQ w a len cap l) (hC : chkE l = 0) (hX : hasQ l id = true) (h0 : id ≠ 0) (hF : leafB l id = true) :
    Calls Try.prog 18 #[.slice a len cap, .int .i64 id] w fun e w' => (∃ v, e = .returned (.tuple #[v, .int .i64 0]) ∧ OwnQ w.heap.size w' v (dropM l id).length (dropM l id)) ∧ Below w.heap.size w w' := by
  have HL := hid h.1
  have hcap0 := h.2.1
  have hcm := h.2.2.1
  have HC := hid (rcheckq_any a len cap l w h)
  have HH := hid h
  clear h
  have hle : len ≤ 64 := by rw [← HL.out]; exact (chkE_ok.1 hC).1
  have hpl : 0 < len := by have := (chkE_ok.1 hC).2.1.1; rw [HL.out] at this; exact this
  have HFm := hid (chkE_ok.1 hC).2.1
  obtain ⟨b, off, rfl, R⟩ := HH.out.row hpl
  have HR := hid R
  clear R
  have t0 : (id == 0) = false := by simpa using h0
  have HF : Hid (decide ((0 : Int) < ((idsAt l (kids l id)).length : Int)) = !leafB l id) := by
    unfold Hid leafB idsAt
    cases kids l id with
    | nil => rfl
    | cons x y => simp <;> omega
  rw [hF] at HF
  clear h0 hF
  have FD := hid (filter_drop HFm.out (of_decide_eq_true hX))
  have HX := hid hX
  rw [hC] at HC
  clear hC hX
  go_enter Try.func18, Try.ntmps18
  go_wp2_with fail
  refine HC.out.mono ?_
  rintro e w1 ⟨rfl, hb1⟩
  go_wp2_with fail
  refine (rhas_any (some ⟨b, off, none⟩) len cap l id w1 (HH.out.below hb1)).mono ?_
  rintro e w2 ⟨rfl, hb2⟩
  rw [HX.out]
  have hB2 := hb1.trans (hb2.mono hb1.size)
  clear hb2
  go_wp2_with fail
  refine (rchildren_any b off len cap l id w2 (HH.out.below hB2) hpl hle).mono ?_
  rintro e w3 ⟨v3, rfl, o3, hb3⟩
  unfold AnsN at o3
  obtain ⟨a3, c3, rfl⟩ := o3.form
  have hB3 := hB2.trans (hb3.mono hB2.size)
  have tf := HF.out
  clear o3 hb3 HF
  generalize (idsAt l (kids l id)).length = nk at *
  obtain rfl : nk = 0 := by simpa using tf
  clear tf
  go_wp2_with fail
  go_loopw [7, 34] (fun m i wr => ∃ k : Nat, k ≤ len ∧ i = .int .i64 k ∧ Hid (OwnQ w.heap.size wr m (outTo l id k).length (outTo l id k)) ∧ Below w.heap.size w wr) (fun _ i _ => len - (intOf i).toNat)
  case atStart => exact ⟨0, by omega, rfl, OwnE.nil _ _ _ _ _, hB3⟩
  case round =>
    obtain ⟨k, hk, rfl, ho, hB⟩ := hrel
    by_cases hlt : k < len
    · have hlt' : k < l.length := by rw [HL.out]; exact hlt
      obtain ⟨e0, e1, e2, e3, e4, e5, e6⟩ := (HR.out.below hB).2 k hlt'
      have OL := outTo_len l id k
      rw [HL.out] at OL
      by_cases hx : (qa l k).id = id
      · have tx : ((qa l k).id != id) = false := by simpa using hx
        have K1 := hid (outTo_no hlt' hx)
        clear hx
        generalize qa l k = x at *
        obtain ⟨x1, x2, x3, x4, x5, x6, x7⟩ := x
        simp only at *
        go_wp2
        go_roundw
        case rel => exact ⟨k + 1, by omega, by go_num, by rw [K1.out]; exact ho.out.below ((Below.refl _ _).alloc (Nat.le_refl _) _), hB.alloc hB.size _⟩
        case measure => simp [intOf]; omega
      · have tx : ((qa l k).id != id) = true := by simpa using hx
        have K1 := hid (outTo_yes hlt' hx)
        clear hx
        generalize qa l k = x at *
        obtain ⟨x1, x2, x3, x4, x5, x6, x7⟩ := x
        simp only at *
        have ho2 := hid (ho.out.below ((Below.refl _ wr).alloc (Nat.le_refl _) (.cells #[.int .i64 x1, .int .i64 x2, .int .i64 x3, .int .i64 x4, .int .i64 x5, .int .i64 x6, .int .i64 x7] 26)))
        have hB2' := hB.alloc hB.size (.cells #[.int .i64 x1, .int .i64 x2, .int .i64 x3, .int .i64 x4, .int .i64 x5, .int .i64 x6, .int .i64 x7] 26)
        go_wp2_with (at_builtin; refine push_q (wr.alloc (.cells #[.int .i64 x1, .int .i64 x2, .int .i64 x3, .int .i64 x4, .int .i64 x5, .int .i64 x6, .int .i64 x7] 26)) ⟨x1, x2, x3, x4, x5, x6, x7⟩ rfl (.tmp 42) (.tmp 44) rfl w.heap.size (outTo l id k).length u7 (outTo l id k) rfl ho2.out hB2'.size (by simp [Act.eval]) (by omega) ?_)
        intro v2 w5 O5 b5 _
        have HO5 := hid O5
        have hB5 := hB2'.trans b5
        clear O5 b5
        go_wp2
        go_roundw
        case rel => exact ⟨k + 1, by omega, by go_num, by rw [K1.out, List.length_append]; exact HO5, hB5⟩
        case measure => simp [intOf]; omega
    · have E : Hid (outTo l id k = dropM l id) := by unfold Hid outTo; rw [List.take_of_length_le (by rw [HL.out]; omega)]; exact FD.out
      rw [E.out] at ho
      go_wp2
      go_ret2
      exact ⟨⟨_, rfl, ho.out⟩, hB⟩

theorem rdrop_any (a : Option Addr) (len cap : Nat) (l : List Qu) (id : Int) (w : World) (h : HoldsQ w a len cap l) :
    Calls Try.prog 18 #[.slice a len cap, .int .i64 id] w fun e w' => ∃ v, e = .returned (.tuple #[v, .int .i64 (dropE l id)]) ∧ OwnQ w.heap.size w' v (dropR l id).length (dropR l id) ∧ Below w.heap.size w w' := by
  by_cases hC : chkE l = 0
  · cases hX : hasQ l id
    · have E : dropE l id = 8 := by unfold dropE; rw [if_neg (by rw [hC]; decide), if_pos hX]
      refine (rdrop_none a len cap l id w h hC hX).mono ?_
      rintro e w' ⟨rfl, hb⟩
      exact ⟨_, by rw [E], by unfold dropR; rw [E]; exact OwnE.nil _ _ _ _ _, hb⟩
    · by_cases h0 : id = 0
      · have E : dropE l id = 4 := by unfold dropE; rw [if_neg (by rw [hC]; decide), if_neg (by rw [hX]; decide), if_pos h0]
        refine (rdrop_form a len cap l id w h hC hX h0).mono ?_
        rintro e w' ⟨rfl, hb⟩
        exact ⟨_, by rw [E], by unfold dropR; rw [E]; exact OwnE.nil _ _ _ _ _, hb⟩
      · cases hF : leafB l id
        · have E : dropE l id = 12 := by unfold dropE; rw [if_neg (by rw [hC]; decide), if_neg (by rw [hX]; decide), if_neg h0, if_pos hF]
          refine (rdrop_use a len cap l id w h hC hX h0 hF).mono ?_
          rintro e w' ⟨rfl, hb⟩
          exact ⟨_, by rw [E], by unfold dropR; rw [E]; exact OwnE.nil _ _ _ _ _, hb⟩
        · have E : dropE l id = 0 := by unfold dropE; rw [if_neg (by rw [hC]; decide), if_neg (by rw [hX]; decide), if_neg h0, if_neg (by rw [hF]; decide)]
          refine (rdrop_good a len cap l id w h hC hX h0 hF).mono ?_
          rintro e w' ⟨⟨v, rfl, hv⟩, hb⟩
          refine ⟨_, by rw [E], ?_, hb⟩
          unfold dropR
          rw [if_pos E]
          exact hv
  · have E : dropE l id = chkE l := by unfold dropE; rw [if_pos hC]
    refine (rdrop_list a len cap l id w h hC).mono ?_
    rintro e w' ⟨rfl, hb⟩
    exact ⟨_, by rw [E], by unfold dropR; rw [E, if_neg hC]; exact OwnE.nil _ _ _ _ _, hb⟩

end Go.Proofs.Ytcfaciicljjpoaa
