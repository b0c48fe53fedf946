/-
  Contracts of strip: Mend of any bytes; the calls whose answers are fixed.
-/
import Derived.Test.YtmdhcigkhapolabSO
namespace Go.Proofs.Ytmdhcigkhapolab
open Go.RowKit Go.Deep
set_option linter.unusedVariables false

set_option maxHeartbeats 1000000 in
theorem mend_any (a : Option Addr) (n cap : Nat) (L : List Int) (w : World) (h : HoldsB w a n cap L) :
    Calls Try.prog 29 #[.slice a n cap] w fun e w' => ∃ v, e = .returned (.tuple #[v, .int .i64 (md L).2.1, .int .i64 (md L).2.2]) ∧ Own w.heap.size w' v (md L).1.length (md L).1 ∧ Below w.heap.size w w' := by
  have hm := h.2.1
  by_cases h1 : n < 4
  · have E : Hid (md L = ([], 0, 5)) := by unfold Hid md; rw [h.1, if_pos h1]
    have t1 : decide ((n : Int) < 4) = true := by simp; omega
    have t2 : decide (n < 4) = true := by simp; omega
    clear h
    go_enter Try.func29, Try.ntmps29
    go_wp2
    go_ret3
    exact ⟨_, retsE E.out, by rw [E.out]; exact own_nil _ _, Below.refl _ _⟩
  by_cases h2 : 60004 < n
  · have E : Hid (md L = ([], 0, 3)) := by unfold Hid md; rw [h.1, if_neg h1, if_pos h2]
    have t1 : decide ((n : Int) < 4) = false := by simp; omega
    have t2 : decide (n < 4) = false := by simp; omega
    have t3 : decide (60004 < (n : Int)) = true := by simp; omega
    have t4 : decide (60004 < n) = true := by simp; omega
    clear h
    go_enter Try.func29, Try.ntmps29
    go_wp2
    go_ret3
    exact ⟨_, retsE E.out, by rw [E.out]; exact own_nil _ _, Below.refl _ _⟩
  obtain ⟨m, rfl⟩ : ∃ m, n = m + 4 := ⟨n - 4, by omega⟩
  obtain ⟨b, off, rfl, hc⟩ := h.2.2.2.2.2.2 (by omega)
  refine mend_main b off m cap L w h (by omega) _ ?_
  unfold Hid md
  rw [h.1, if_neg h1, if_neg h2]
  simp

/-- A slice literal. -/
theorem own_arr (w : World) (l : List Int) (cs : Array Value) (n : Nat) (hn : l.length = n) (hcs : cs.toList = l.map (Value.int .u8)) (hb : BB l) (hm : n ≤ 1000) : Own w.heap.size (w.alloc (.cells cs 5)) (.slice (some ⟨w.heap.size, 0, none⟩) n n) n l := by
  refine ⟨?_, hb⟩
  rw [← hcs]
  refine World.ownsRow_lit w cs n (Nat.le_refl _) (by unfold maxLen; omega) ?_
  have := congrArg List.length hcs
  simp at this
  omega

theorem aw_guard (a : Option Addr) (w : World) (h : HoldsB w a 2 2 [1, 2]) :
    Calls Try.prog 27 #[.slice a 2 2] w fun e w' => ∃ v, e = .returned (.tuple #[v, .int .i64 0]) ∧ Own w.heap.size w' v 6 [1, 2, 0, 3, 0, 5] ∧ Below w.heap.size w w' := by
  have K := guard_any a 2 2 [1, 2] w h
  have e1 : gE [1, 2] = 0 := by decide
  have e2 : gB [1, 2] = [1, 2, 0, 3, 0, 5] := by decide
  rw [e1, e2] at K
  exact K
theorem aw_mend (a : Option Addr) (w : World) (h : HoldsB w a 6 6 [1, 9, 0, 3, 0, 5]) :
    Calls Try.prog 29 #[.slice a 6 6] w fun e w' => ∃ v, e = .returned (.tuple #[v, .int .i64 1, .int .i64 0]) ∧ Own w.heap.size w' v 2 [1, 2] ∧ Below w.heap.size w w' := by
  have K := mend_any a 6 6 _ w h
  have e1 : md [1, 9, 0, 3, 0, 5] = ([1, 2], 1, 0) := by decide +kernel
  rw [e1] at K
  exact K
theorem aw_read (a : Option Addr) (w : World) (h : HoldsB w a 2 2 [193, 0]) :
    Calls Try.prog 21 #[.slice a 2 2, .int .i64 0] w fun e w' => e = .returned (.tuple #[.int .u64 0, .int .i64 2, .int .i64 5]) ∧ w = w' := by
  have K := read_any a 2 2 _ 0 w h ⟨by omega, by omega⟩
  have e1 : rd [193, 0] 0 = (0, 2, 5) := by decide
  rw [e1] at K
  exact K
theorem aw_lay (a : Option Addr) (w : World) (h : HoldsB w a 1 1 [7]) :
    Calls Try.prog 13 #[.slice a 1 1, .int .u64 300] w fun e w' => ∃ g, e = .returned (.slice (some ⟨g, 0, none⟩) 3 3) ∧ Row w.heap.size w' g 3 3 [7, 192, 108] ∧ Below w.heap.size w w' := by
  have K := lay_any a 1 1 _ 300 w h (by omega) (by omega) (by omega)
  have e1 : shelf 300 = 1 := by decide
  have e2 : [7] ++ numB 300 = [7, 192, 108] := by decide
  rw [e1, e2] at K
  exact K
theorem aw_size (w : World) : Calls Try.prog 20 #[.int .u64 18446744073709551615] w fun e w' => e = .returned (.int .i64 9) ∧ w = w' := by
  have K := size_any' 18446744073709551615 (by omega) (by omega) w
  have e1 : shelf 18446744073709551615 = 8 := by decide
  rw [e1] at K
  exact K

theorem holds_arr (l : List Int) (cs : Array Value) (n : Nat) (hn : l.length = n) (hcs : cs.toList = l.map (Value.int .u8)) (hb : BB l) (hm : n ≤ 1000) (w : World) (k : Nat) (hk : k = w.heap.size) : HoldsB (w.alloc (.cells cs 5)) (some ⟨k, 0, none⟩) n n l := by
  subst hk
  exact (own_arr w l cs n hn hcs hb hm).holds
theorem BBd {l : List Int} (h : l.all (fun x => decide (0 ≤ x ∧ x ≤ 255)) = true) : BB l := fun x hx => by simpa using List.all_eq_true.1 h x hx

set_option maxRecDepth 100000 in
set_option maxHeartbeats 4000000 in
theorem awake3_any (w : World) : Calls Try.prog 11 #[] w fun e w' => e = .returned (.bool true) ∧ Below w.heap.size w w' := by
  have O1 := hid (holds_arr [1, 2] #[.int .u8 1, .int .u8 2] 2 rfl rfl (BBd (by decide)) (by omega))
  have O2 := hid (holds_arr [1, 9, 0, 3, 0, 5] #[.int .u8 1, .int .u8 9, .int .u8 0, .int .u8 3, .int .u8 0, .int .u8 5] 6 rfl rfl (BBd (by decide)) (by omega))
  have O3 := hid (holds_arr [193, 0] #[.int .u8 193, .int .u8 0] 2 rfl rfl (BBd (by decide)) (by omega))
  have O4 := hid (holds_arr [1, 2, 0, 3, 0, 5] #[.int .u8 1, .int .u8 2, .int .u8 0, .int .u8 3, .int .u8 0, .int .u8 5] 6 rfl rfl (BBd (by decide)) (by omega))
  have O5 := hid (holds_arr [7] #[.int .u8 7] 1 rfl rfl (BBd (by decide)) (by omega))
  have O6 := hid (holds_arr [7, 192, 108] #[.int .u8 7, .int .u8 192, .int .u8 108] 3 rfl rfl (BBd (by decide)) (by omega))
  go_enter Try.func11, Try.ntmps11
  go_wp2_with fail
  with_reducible refine (aw_guard _ _ (O1.out _ _ (by simp))).mono ?_
  rintro e w1 ⟨v1, rfl, h1, b1⟩
  obtain ⟨a1, c1, rfl⟩ := h1.form
  have q1 : Below w.heap.size w w1 := (below_alloc' _ _).trans (b1.mono (by simp))
  have H1 := hid h1.holds
  clear h1 b1
  go_wp2_with fail
  with_reducible refine (aw_mend _ _ (O2.out _ _ (by simp))).mono ?_
  rintro e w2 ⟨v2, rfl, h2, b2⟩
  obtain ⟨a2, c2, rfl⟩ := h2.form
  have b3 : Below w1.heap.size w1 w2 := (below_alloc' _ _).trans (b2.mono (by simp))
  have q2 := q1.trans (b3.mono q1.size)
  have H2 := hid (H1.out.below b3)
  have G2 := hid h2.holds
  clear h2 b2 b3 q1 H1
  go_wp2_with fail
  with_reducible refine (aw_read _ _ (O3.out _ _ (by simp))).mono ?_
  rintro e w3 ⟨rfl, rfl⟩
  go_wp2_with fail
  with_reducible refine (bytes_same _ _ _ _ _ _ [1, 2, 0, 3, 0, 5] _ ((H2.out.below (below_alloc' _ _)).below (below_alloc' _ _)) (O4.out _ _ (by simp))).mono ?_
  rintro e w3 ⟨rfl, rfl⟩
  go_wp2_with fail
  with_reducible refine (bytes_same _ _ _ _ _ _ [1, 2] _ (((G2.out.below (below_alloc' _ _)).below (below_alloc' _ _)).below (below_alloc' _ _)) (O1.out _ _ (by simp))).mono ?_
  rintro e w3 ⟨rfl, rfl⟩
  go_wp2_with fail
  with_reducible refine (aw_lay _ _ (O5.out _ _ (by simp))).mono ?_
  rintro e w4 ⟨g, rfl, h4, b4⟩
  have b5 : Below w2.heap.size w2 w4 := Below.trans (by repeat (first | exact Below.refl _ _ | assumption | refine Below.alloc ?_ (by simp <;> omega) _ | refine Below.setCell ?_ (by simp <;> omega) _ | refine Below.drew ?_ | refine below_drewN ?_ _)) (b4.mono (by simp <;> omega))
  have q4 := q2.trans (b5.mono q2.size)
  have H4 := hid h4.holds
  clear h4 b4 b5
  go_wp2_with fail
  with_reducible refine (bytes_same _ _ _ _ _ _ [7, 192, 108] _ (H4.out.below (below_alloc' _ _)) (O6.out _ _ (by simp))).mono ?_
  rintro e w5 ⟨rfl, rfl⟩
  go_wp2_with fail
  with_reducible refine (aw_size _).mono ?_
  rintro e w5 ⟨rfl, rfl⟩
  have q5 := q4.alloc (o := .cells #[.int .u8 7, .int .u8 192, .int .u8 108] 5) (by exact q4.size)
  go_wp2
  go_ret
  exact ⟨rfl, q5⟩

end Go.Proofs.Ytmdhcigkhapolab
