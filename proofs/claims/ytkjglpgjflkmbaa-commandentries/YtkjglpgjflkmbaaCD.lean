/-
  Contracts of command: the writer's kinds and lists.
-/
import Derived.Test.YtkjglpgjflkmbaaCC
namespace Go.Proofs.Ytkjglpgjflkmbaa
open Go.RowKit Go.Deep
set_option linter.unusedVariables false
set_option linter.unusedSimpArgs false

theorem wr_below {W : World} {p i : Nat} {v u : Value} : WK p v W (W.setCell ⟨p, i, none⟩ u) v := by
  have hb := (Below.refl 0 W).setCell (p := ⟨p, i, none⟩) (Nat.zero_le _) u
  exact ⟨hb.os, hb.tape, hb.output, hb.size, fun b _ h _ => heap_setCell_other _ _ _ _ h, fun g e => .inl e⟩
theorem wr_long {W : World} {p : Nat} {v : Value} {l : List Int} {lg bz : Bool} (h : Wr W p v l lg bz) : Wr (W.setCell ⟨p, 1, none⟩ (.bool true)) p v l true bz := by
  obtain ⟨⟨⟨c1, c2, c3⟩, f1, f2, f3⟩, ho⟩ := h
  refine ⟨⟨⟨?_, ?_, ?_⟩, ?_, ?_, ?_⟩, ownsRow_setCell_below ho.1 (a := ⟨p, 1, none⟩) (Nat.lt_succ_self p) _, ho.2⟩
  · rw [World.cell?_setCell_other _ _ _ _ (by simp)]; exact c1
  · exact World.cell?_setCell_same' _ _ _ (by rw [c2]; rfl)
  · rw [World.cell?_setCell_other _ _ _ _ (by simp)]; exact c3
  · rw [World.frozen?_setCell]; exact f1
  · rw [World.frozen?_setCell]; exact f2
  · rw [World.frozen?_setCell]; exact f3
theorem wr_neg {W : World} {p : Nat} {v : Value} {l : List Int} {lg bz : Bool} (h : Wr W p v l lg bz) : Wr (W.setCell ⟨p, 2, none⟩ (.bool true)) p v l lg true := by
  obtain ⟨⟨⟨c1, c2, c3⟩, f1, f2, f3⟩, ho⟩ := h
  refine ⟨⟨⟨?_, ?_, ?_⟩, ?_, ?_, ?_⟩, ownsRow_setCell_below ho.1 (a := ⟨p, 2, none⟩) (Nat.lt_succ_self p) _, ho.2⟩
  · rw [World.cell?_setCell_other _ _ _ _ (by simp)]; exact c1
  · rw [World.cell?_setCell_other _ _ _ _ (by simp)]; exact c2
  · exact World.cell?_setCell_same' _ _ _ (by rw [c3]; rfl)
  · rw [World.frozen?_setCell]; exact f1
  · rw [World.frozen?_setCell]; exact f2
  · rw [World.frozen?_setCell]; exact f3
/-- A kind's bytes. -/
def kindZ (x : Int) : List Int := if x < 0 then [] else numB x
theorem kindZ_len (x : Int) : (kindZ x).length ≤ 9 := by
  unfold kindZ
  split
  · simp
  · rw [numB_len]; have := shelf_le x; omega
set_option maxRecDepth 100000 in
set_option maxHeartbeats 4000000 in
theorem ckind_any (p : Nat) (x : Int) (w : World) (v : Value) (l : List Int) (lg bz : Bool) (h : Wr w p v l lg bz) (hx : I64 x) (hm : l.length + 9 ≤ 140737488355328) :
    Calls Try.prog 103 #[.pointer (some ⟨p, 0, none⟩), .int .i64 x] w fun e w' => (∃ r, e = .returned r) ∧ ∃ v', Wr w' p v' (l ++ kindZ x) lg (bz || decide (x < 0)) ∧ WK p v w w' v' := by
  have HW := hid h
  unfold I64 at hx
  by_cases hn : x < 0
  · have t : decide (x < 0) = true := by simpa using hn
    have E : Hid (kindZ x = []) := by unfold Hid kindZ; rw [if_pos hn]
    have c2 := h.1.1.2.2
    have f2 := h.1.2.2.2
    clear h hn
    go_enter Try.func103, Try.ntmps103
    go_wp2_with fail
    first | go_end0 | (refine bodyPost_ret (results_none rfl _ _ _) rfl ?_)
    refine ⟨⟨_, rfl⟩, v, ?_, wr_below⟩
    rw [E.out, List.append_nil, t, Bool.or_true]
    exact wr_neg HW.out
  · have t : decide (x < 0) = false := by simpa using hn
    have E : Hid (kindZ x = numB x) := by unfold Hid kindZ; rw [if_neg hn]
    have NU := hid (cnumber_any p x w v l lg bz h (by omega) (by omega) hm)
    have kx : IntKind.u64.wrap x = x := by rw [IntKind.wrap_u64]; omega
    have h0 : 0 ≤ x := by omega
    clear h hn
    go_enter Try.func103, Try.ntmps103
    go_wp2_with fail
    with_reducible refine NU.out.mono ?_
    rintro e w1 ⟨⟨r, rfl⟩, v1, h1, k1⟩
    have H1 := hid h1
    have K1 := hid k1
    clear NU h1 k1
    go_wp2_with fail
    first | go_end0 | (refine bodyPost_ret (results_none rfl _ _ _) rfl ?_)
    refine ⟨⟨_, rfl⟩, v1, ?_, K1.out⟩
    rw [E.out, t, Bool.or_false]
    exact H1.out
/-- Numbers that lie ahead of the writer. -/
def HoldsP (p : Nat) (W : World) (a : Option Addr) (n c : Nat) (l : List Int) : Prop := HoldsN W a n c l ∧ ∀ b o, a = some ⟨b, o, none⟩ → 0 < n → b < p
theorem HoldsP.wk {p : Nat} {A B : World} {v v' : Value} {a : Option Addr} {n c : Nat} {l : List Int} (h : HoldsP p A a n c l) (k : WK p v A B v') (hv : ∀ g, v.ownBlock = some g → p < g) : HoldsP p B a n c l := by
  obtain ⟨⟨h1, h2, h3, h4, h5⟩, h6⟩ := h
  refine ⟨⟨h1, h2, h3, h4, fun hp => ?_⟩, h6⟩
  obtain ⟨b, o, e, hlt, hc⟩ := h5 hp
  have hb := h6 b o e hp
  exact ⟨b, o, e, Nat.lt_of_lt_of_le hlt k.size, fun j x hx i u hu => k.cell (hc j x hx i u hu) (by show b ≠ p; omega) (fun e2 => by have := hv b e2; omega)⟩
/-- A list's bytes. -/
def listZ (l : List Int) : List Int := if 1024 < l.length then [] else numB (l.length : Int) ++ bytesZ l
theorem listZ_len (l : List Int) : (listZ l).length ≤ 9 + 9 * 1024 := by
  unfold listZ
  split
  · simp
  · have h1 := bytesZ_len l
    have h2 := shelf_le (l.length : Int)
    rw [List.length_append, numB_len]; omega
set_option maxRecDepth 100000 in
set_option maxHeartbeats 4000000 in
theorem clist_any (p : Nat) (ta : Option Addr) (tn tc : Nat) (tk : List Int) (w : World) (v0 : Value) (l0 : List Int) (lg bz : Bool) (h : Wr w p v0 l0 lg bz) (ht : HoldsP p w ta tn tc tk) (hx : ∀ x ∈ tk, I64 x) (hm : l0.length + 9225 ≤ 140737488355328) :
    Calls Try.prog 71 #[.pointer (some ⟨p, 0, none⟩), .slice ta tn tc, .func (.func 72) #[.pointer (some ⟨p, 0, none⟩)] #[]] w fun e w' => (∃ r, e = .returned r) ∧ ∃ v', Wr w' p v' (l0 ++ listZ tk) (lg || decide (1024 < tn)) bz ∧ WK p v0 w w' v' := by
  have HW0 := hid h
  have HT := hid ht
  have HN := hid ht.1.1
  have HX := hid hx
  have tcap := ht.1.2.1
  have tcm := ht.1.2.2.1
  by_cases hn : 1024 < tn
  · have t : decide ((1024 : Int) < (tn : Int)) = true := by simp; omega
    have E : Hid (listZ tk = []) := by unfold Hid listZ; rw [if_pos (by rw [HN.out]; exact hn)]
    have T : Hid (decide (1024 < tn) = true) := by unfold Hid; simpa using hn
    have c1 := h.1.1.2.1
    have f1 := h.1.2.2.1
    clear h ht hx hn
    go_enter Try.func71, Try.ntmps71
    go_wp2_with fail
    first | go_end0 | (refine bodyPost_ret (results_none rfl _ _ _) rfl ?_)
    refine ⟨⟨_, rfl⟩, v0, ?_, wr_below⟩
    rw [E.out, List.append_nil, T.out, Bool.or_true]
    exact wr_long HW0.out
  · have t : decide ((1024 : Int) < (tn : Int)) = false := by simp; omega
    have E : Hid (listZ tk = numB (tn : Int) ++ bytesZ tk) := by unfold Hid listZ; rw [if_neg (by rw [HN.out]; exact hn), HN.out]
    have T : Hid (decide (1024 < tn) = false) := by unfold Hid; simpa using hn
    have htn : tn ≤ 1024 := by omega
    have NU := hid (cnumber_any p (tn : Int) w v0 l0 lg bz h (by omega) (by omega) (by omega))
    have hl9 : (numB (tn : Int)).length ≤ 9 := by rw [numB_len]; have := shelf_le (tn : Int); omega
    clear h ht hx hn
    go_enter Try.func71, Try.ntmps71
    go_wp2_with fail
    with_reducible refine NU.out.mono ?_
    rintro e w1 ⟨⟨r, rfl⟩, v1, h1, k1⟩
    have H1 := hid h1
    have K1 := hid k1
    have T1 := hid (HT.out.wk k1 (fun g e => (HW0.out.row g e).1))
    clear NU h1 k1
    generalize numB (tn : Int) = NB at *
    go_wp2_with fail
    go_loopw [21] (fun i wr => ∃ k : Nat, k ≤ tn ∧ i = .int .i64 (k : Int) ∧ ∃ v', Hid (Wr wr p v' (l0 ++ NB ++ bytesZ (tk.take k)) lg bz) ∧ Hid (WK p v1 w1 wr v')) (fun i _ => tn - (intOf i).toNat)
    case atStart => exact ⟨0, by omega, rfl, v1, by unfold Hid; simpa [bytesZ] using H1.out, WK.refl _ _ _⟩
    case round =>
      obtain ⟨k, hk, rfl, v, HW, K0⟩ := hrel
      by_cases hlt : k < tn
      · have hlt' : k < tk.length := by rw [HN.out]; exact hlt
        have T2 := T1.out.wk K0.out (fun g e => (H1.out.row g e).1)
        obtain ⟨tb, to_, rfl, RI⟩ := T2.1.rowN (by omega)
        have c0 := RI k hlt
        have SN := hid (bytesZ_snoc hlt')
        have hbl := bytesZ_len (tk.take k)
        have hxk : I64 (tk[k]?.getD 0) := HX.out _ (by rw [List.getElem?_eq_getElem hlt']; exact List.getElem_mem hlt')
        have ka : (0 : Int) ≤ (k : Int) := by omega
        have kb : (k : Int) < (tn : Int) := by omega
        rw [List.length_take] at hbl
        clear RI T2
        generalize tk[k]?.getD 0 = x at *
        have CI := hid (cint_any p x wr v _ lg bz HW.out hxk (by simp only [List.length_append]; omega))
        clear hxk hbl
        go_wp2_with fail
        with_reducible refine CI.out.mono ?_
        rintro e w2 ⟨⟨r2, rfl⟩, v2, h2, k2⟩
        have H2 := hid h2
        have K2 := hid (K0.out.trans k2)
        clear CI h2 k2 HW K0 c0
        go_wp2_with fail
        refine ⟨⟨k + 1, by omega, by go_num, v2, by unfold Hid; rw [SN.out, ← List.append_assoc]; exact H2.out, K2⟩, ?_⟩
        simp [intOf]; omega
      · obtain rfl : tn = k := by omega
        have e : tk.take tn = tk := List.take_of_length_le (by rw [HN.out]; exact Nat.le_refl _)
        rw [e] at HW
        have KF := hid (K1.out.trans K0.out)
        go_wp2_with fail
        first | go_end0 | (refine bodyPost_ret (results_none rfl _ _ _) rfl ?_)
        refine ⟨⟨_, rfl⟩, v, ?_, KF.out⟩
        rw [E.out, T.out, Bool.or_false, ← List.append_assoc]
        exact HW.out
end Go.Proofs.Ytkjglpgjflkmbaa
