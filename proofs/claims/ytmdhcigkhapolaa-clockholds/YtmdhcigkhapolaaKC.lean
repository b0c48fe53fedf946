/-
  Contracts of clock: Steady, by the program and by the document; the calls whose answers are fixed.
-/
import Derived.Test.YtmdhcigkhapolaaKB
import Derived.Test.YtmdhcigkhapolaaOpen
import Derived.Deep.QuietTactic
import Derived.BigQuiet
namespace Go.Proofs.Ytmdhcigkhapolaa
open Go.RowKit Go.Deep
set_option linter.unusedVariables false

/-- What a slice of int64 reads as, whatever its length. -/
def HoldsI (w : World) (a : Option Addr) (len : Nat) (l : List Int) : Prop :=
  l.length = len ∧ len ≤ 9223372036854775807 ∧ (∀ x ∈ l, I64 x) ∧ (0 < len → ∃ b off, a = some ⟨b, off, none⟩ ∧ ∀ j, j < len → w.cell? ⟨b, off + j, none⟩ = some (.int .i64 (l[j]?.getD 0)))

theorem HoldsI.below {w w' : World} {a : Option Addr} {len : Nat} {l : List Int} (h : HoldsI w a len l) (hb : Below w.heap.size w w') : HoldsI w' a len l := by
  obtain ⟨h1, h2, h3, h4⟩ := h
  refine ⟨h1, h2, h3, fun hp => ?_⟩
  obtain ⟨b, off, e, hc⟩ := h4 hp
  exact ⟨b, off, e, fun j hj => keepc hb (hc j hj)⟩

theorem holdsI_row {w : World} {a : Option Addr} {len cap : Nat} {zs : List Int} (h : IsRow .i64 w a len cap zs) : HoldsI w a len (zs.take len) := by
  rcases h with ⟨rfl, rfl, rfl, rfl⟩ | ⟨x, rfl, hl, hm, hz, hc, hw⟩
  · exact ⟨rfl, by omega, fun x hx => by simp at hx, fun h => absurd h (by omega)⟩
  · unfold maxLen at hm
    refine ⟨by simp; omega, by omega, fun y hy => bounds_i64 (hw y (List.mem_of_mem_take hy)), fun hp => ?_⟩
    obtain ⟨b, off, rfl, hc'⟩ := ints_at hc (by omega)
    refine ⟨b, off, rfl, fun j hj => ?_⟩
    rw [hc' j (by omega)]
    simp [hj, List.getD]

/-- Is each step within the drift? -/
def stepsB (ds es : List Int) (d : Int) (n : Nat) : Bool := (List.range n).all fun k => withB (ds[k]?.getD 0) (es[k]?.getD 0) d
def steadyB (ds es : List Int) (d : Int) : Bool := decide (ds.length = es.length) && stepsB ds es d ds.length
theorem steps_yes {ds es : List Int} {d : Int} {k : Nat} (h : stepsB ds es d k = true) (hk : withB (ds[k]?.getD 0) (es[k]?.getD 0) d = true) : stepsB ds es d (k + 1) = true := by
  unfold stepsB at *
  rw [List.range_succ, List.all_append, h]
  simp [hk]
theorem steps_no {ds es : List Int} {d : Int} {k n : Nat} (hn : k < n) (hk : withB (ds[k]?.getD 0) (es[k]?.getD 0) d = false) : stepsB ds es d n = false := by
  unfold stepsB
  exact List.all_eq_false.2 ⟨k, List.mem_range.2 hn, by simp [hk]⟩
theorem steps_at {ds es : List Int} {d : Int} {n : Nat} (h : stepsB ds es d n = true) (k : Nat) (hk : k < n) : withB (ds[k]?.getD 0) (es[k]?.getD 0) d = true := by
  unfold stepsB at h
  exact List.all_eq_true.1 h k (List.mem_range.2 hk)

theorem within_v (t i d : Int) (b : Bool) (hb : withB t i d = b) (w : World) :
    Calls Try.prog 24 #[.int .i64 t, .int .i64 i, .int .i64 d] w fun e w' => e = .returned (.bool b) ∧ Below w.heap.size w w' := by rw [← hb]; exact within_any t i d w
theorem safe_v (t i d : Int) (b : Bool) (hb : safeB t i d = b) (w : World) :
    Calls Try.prog 22 #[.int .i64 t, .int .i64 i, .int .i64 d] w fun e w' => e = .returned (.bool b) ∧ Below w.heap.size w w' := by rw [← hb]; exact safe_any t i d w
theorem len_v (l d x e : Int) (hx : lenV l d = x) (he : lenE l d = e) (w : World) :
    Calls Try.prog 20 #[.int .i64 l, .int .i64 d] w fun r w' => r = .returned (.tuple #[.int .i64 x, .int .i64 e]) ∧ Below w.heap.size w w' := by rw [← hx, ← he]; exact len_any l d w
theorem rwithin_q (t i d : Int) (b : Bool) (hb : withB t i d = b) (w : World) :
    Calls Try.prog 25 #[.int .i64 t, .int .i64 i, .int .i64 d] w fun e w' => e = .returned (.bool b) ∧ w' = w := by rw [← hb]; exact (rwithin_any t i d w).mono fun _ _ h => ⟨h.1, h.2.symm⟩

set_option maxHeartbeats 1000000 in
theorem steady_row (b off b2 off2 len cap cap2 : Nat) (ds es : List Int) (d : Int) (w : World) (hl : len ≤ 9223372036854775807)
    (hc : ∀ j, j < len → w.cell? ⟨b, off + j, none⟩ = some (.int .i64 (ds[j]?.getD 0))) (hc2 : ∀ j, j < len → w.cell? ⟨b2, off2 + j, none⟩ = some (.int .i64 (es[j]?.getD 0))) :
    Calls Try.prog 26 #[.slice (some ⟨b, off, none⟩) len cap, .slice (some ⟨b2, off2, none⟩) len cap2, .int .i64 d] w fun e w' => e = .returned (.bool (stepsB ds es d len)) ∧ Below w.heap.size w w' := by
  have HC := hid hc
  have HC2 := hid hc2
  clear hc hc2
  go_enter Try.func26, Try.ntmps26
  go_wp2_with fail
  go_loopw [16] (fun i wr => ∃ k : Nat, k ≤ len ∧ i = .int .i64 k ∧ Hid (stepsB ds es d k = true) ∧ Below w.heap.size w wr) (fun i _ => len - (intOf i).toNat)
  case atStart => exact ⟨0, by omega, rfl, rfl, Below.refl _ _⟩
  case round =>
    obtain ⟨k, hk, rfl, ha, hB⟩ := hrel
    by_cases hlt : k < len
    · have c1 : wr.cell? ⟨b, off + k, none⟩ = some (.int .i64 (ds[k]?.getD 0)) := (hB.cell (p := ⟨b, off + k, none⟩) (cell_lt (HC.out k hlt))).trans (HC.out k hlt)
      have c2 : wr.cell? ⟨b2, off2 + k, none⟩ = some (.int .i64 (es[k]?.getD 0)) := (hB.cell (p := ⟨b2, off2 + k, none⟩) (cell_lt (HC2.out k hlt))).trans (HC2.out k hlt)
      cases hw : withB (ds[k]?.getD 0) (es[k]?.getD 0) d
      · have N := hid (steps_no hlt hw)
        have HW := hid hw
        clear hw
        generalize ds[k]?.getD 0 = x at *
        generalize es[k]?.getD 0 = y at *
        go_wp2_with fail
        refine (within_v x y d false HW.out _).mono ?_
        rintro e w1 ⟨rfl, h1⟩
        have hB1 := hB.trans (h1.mono hB.size)
        go_wp2
        go_ret
        exact ⟨retb N.out.symm, hB1⟩
      · have N := hid (steps_yes ha.out hw)
        have HW := hid hw
        clear hw
        generalize ds[k]?.getD 0 = x at *
        generalize es[k]?.getD 0 = y at *
        go_wp2_with fail
        refine (within_v x y d true HW.out _).mono ?_
        rintro e w1 ⟨rfl, h1⟩
        have hB1 := hB.trans (h1.mono hB.size)
        go_wp2
        go_roundw
        case rel => exact ⟨k + 1, by omega, by go_num, N.out, hB1⟩
        case measure => simp [intOf]; omega
    · obtain rfl : k = len := by omega
      go_wp2
      go_ret
      exact ⟨retb ha.out.symm, hB⟩

set_option maxHeartbeats 1000000 in
theorem rsteady_row (b off b2 off2 len cap cap2 : Nat) (ds es : List Int) (d : Int) (w : World) (hl : len ≤ 9223372036854775807)
    (hc : ∀ j, j < len → w.cell? ⟨b, off + j, none⟩ = some (.int .i64 (ds[j]?.getD 0))) (hc2 : ∀ j, j < len → w.cell? ⟨b2, off2 + j, none⟩ = some (.int .i64 (es[j]?.getD 0))) :
    Calls Try.prog 27 #[.slice (some ⟨b, off, none⟩) len cap, .slice (some ⟨b2, off2, none⟩) len cap2, .int .i64 d] w fun e w' => e = .returned (.bool (stepsB ds es d len)) ∧ Below w.heap.size w w' := by
  have HC := hid hc
  have HC2 := hid hc2
  clear hc hc2
  go_enter Try.func27, Try.ntmps27
  go_wp2_with fail
  go_loopw [15] (fun i wr => ∃ k : Nat, k ≤ len ∧ i = .int .i64 k ∧ Hid (stepsB ds es d k = true) ∧ Below w.heap.size w wr) (fun i _ => len - (intOf i).toNat)
  case atStart => exact ⟨0, by omega, rfl, rfl, Below.refl _ _⟩
  case round =>
    obtain ⟨k, hk, rfl, ha, hB⟩ := hrel
    by_cases hlt : k < len
    · have c1 : wr.cell? ⟨b, off + k, none⟩ = some (.int .i64 (ds[k]?.getD 0)) := (hB.cell (p := ⟨b, off + k, none⟩) (cell_lt (HC.out k hlt))).trans (HC.out k hlt)
      have c2 : wr.cell? ⟨b2, off2 + k, none⟩ = some (.int .i64 (es[k]?.getD 0)) := (hB.cell (p := ⟨b2, off2 + k, none⟩) (cell_lt (HC2.out k hlt))).trans (HC2.out k hlt)
      cases hw : withB (ds[k]?.getD 0) (es[k]?.getD 0) d
      · have N := hid (steps_no hlt hw)
        have HW := hid hw
        clear hw
        generalize ds[k]?.getD 0 = x at *
        generalize es[k]?.getD 0 = y at *
        go_wp2_with fail
        go_quiet ((go_at_call 25; exact Calls.quiet_of_same (rwithin_q x y d false HW.out _)))
        go_wp2
        go_ret
        exact ⟨retb N.out.symm, below_drewN hB _⟩
      · have N := hid (steps_yes ha.out hw)
        have HW := hid hw
        clear hw
        generalize ds[k]?.getD 0 = x at *
        generalize es[k]?.getD 0 = y at *
        go_wp2_with fail
        go_quiet ((go_at_call 25; exact Calls.quiet_of_same (rwithin_q x y d true HW.out _)))
        go_wp2
        go_roundw
        case rel => exact ⟨k + 1, by omega, by go_num, N.out, below_drewN hB _⟩
        case measure => simp [intOf]; omega
    · obtain rfl : k = len := by omega
      go_wp2
      go_ret
      exact ⟨retb ha.out.symm, hB⟩

set_option maxHeartbeats 1000000 in
theorem steady_zero (a a2 : Option Addr) (cap cap2 : Nat) (d : Int) (w : World) :
    Calls Try.prog 26 #[.slice a 0 cap, .slice a2 0 cap2, .int .i64 d] w fun e w' => e = .returned (.bool true) ∧ Below w.heap.size w w' := by
  go_enter Try.func26, Try.ntmps26
  go_wp2_with fail
  go_loopw [16] (fun i wr => i = .int .i64 0 ∧ wr = w) (fun i _ => 0)
  case atStart => exact ⟨rfl, rfl⟩
  case round =>
    obtain ⟨rfl, rfl⟩ := hrel
    go_wp2
    go_ret
    exact ⟨rfl, Below.refl _ _⟩
theorem steady_diff (a a2 : Option Addr) (len len2 cap cap2 : Nat) (d : Int) (w : World) (h : len ≠ len2) :
    Calls Try.prog 26 #[.slice a len cap, .slice a2 len2 cap2, .int .i64 d] w fun e w' => e = .returned (.bool false) ∧ Below w.heap.size w w' := by
  have t1 : ((len : Int) != (len2 : Int)) = true := by simp; omega
  go_enter Try.func26, Try.ntmps26
  go_wp2
  go_ret
  exact ⟨rfl, Below.refl _ _⟩
theorem steady_any (a a2 : Option Addr) (len len2 cap cap2 : Nat) (ds es : List Int) (d : Int) (w : World) (h : HoldsI w a len ds) (h2 : HoldsI w a2 len2 es) :
    Calls Try.prog 26 #[.slice a len cap, .slice a2 len2 cap2, .int .i64 d] w fun e w' => e = .returned (.bool (steadyB ds es d)) ∧ Below w.heap.size w w' := by
  obtain ⟨l1, m1, _, c1⟩ := h
  obtain ⟨l2, m2, _, c2⟩ := h2
  unfold steadyB
  rw [l1, l2]
  by_cases e : len = len2
  · subst e
    by_cases hp : 0 < len
    · obtain ⟨b, off, rfl, hc⟩ := c1 hp
      obtain ⟨b2, off2, rfl, hc2⟩ := c2 hp
      simpa using steady_row b off b2 off2 len cap cap2 ds es d w m1 hc hc2
    · obtain rfl : len = 0 := by omega
      simpa [stepsB] using steady_zero a a2 cap cap2 d w
  · simpa [e] using steady_diff a a2 len len2 cap cap2 d w e

set_option maxHeartbeats 1000000 in
theorem rsteady_zero (a a2 : Option Addr) (cap cap2 : Nat) (d : Int) (w : World) :
    Calls Try.prog 27 #[.slice a 0 cap, .slice a2 0 cap2, .int .i64 d] w fun e w' => e = .returned (.bool true) ∧ Below w.heap.size w w' := by
  go_enter Try.func27, Try.ntmps27
  go_wp2_with fail
  go_loopw [15] (fun i wr => i = .int .i64 0 ∧ wr = w) (fun i _ => 0)
  case atStart => exact ⟨rfl, rfl⟩
  case round =>
    obtain ⟨rfl, rfl⟩ := hrel
    go_wp2
    go_ret
    exact ⟨rfl, Below.refl _ _⟩
theorem rsteady_diff (a a2 : Option Addr) (len len2 cap cap2 : Nat) (d : Int) (w : World) (h : len ≠ len2) :
    Calls Try.prog 27 #[.slice a len cap, .slice a2 len2 cap2, .int .i64 d] w fun e w' => e = .returned (.bool false) ∧ Below w.heap.size w w' := by
  have t1 : ((len : Int) != (len2 : Int)) = true := by simp; omega
  go_enter Try.func27, Try.ntmps27
  go_wp2
  go_ret
  exact ⟨rfl, Below.refl _ _⟩
theorem rsteady_any (a a2 : Option Addr) (len len2 cap cap2 : Nat) (ds es : List Int) (d : Int) (w : World) (h : HoldsI w a len ds) (h2 : HoldsI w a2 len2 es) :
    Calls Try.prog 27 #[.slice a len cap, .slice a2 len2 cap2, .int .i64 d] w fun e w' => e = .returned (.bool (steadyB ds es d)) ∧ Below w.heap.size w w' := by
  obtain ⟨l1, m1, _, c1⟩ := h
  obtain ⟨l2, m2, _, c2⟩ := h2
  unfold steadyB
  rw [l1, l2]
  by_cases e : len = len2
  · subst e
    by_cases hp : 0 < len
    · obtain ⟨b, off, rfl, hc⟩ := c1 hp
      obtain ⟨b2, off2, rfl, hc2⟩ := c2 hp
      simpa using rsteady_row b off b2 off2 len cap cap2 ds es d w m1 hc hc2
    · obtain rfl : len = 0 := by omega
      simpa [stepsB] using rsteady_zero a a2 cap cap2 d w
  · simpa [e] using rsteady_diff a a2 len len2 cap cap2 d w e

theorem aw4 : lenV 40 50 = 36 ∧ lenE 40 50 = 0 ∧ safeB 40 36 50 = true ∧ safeB 40 37 50 = false ∧ withB 100 105 50 = true ∧ withB 100 106 50 = false := by decide
set_option maxHeartbeats 1000000 in
theorem awake4_any (w : World) : Calls Try.prog 19 #[] w fun e w' => e = .returned (.bool true) ∧ Below w.heap.size w w' := by
  go_enter Try.func19, Try.ntmps19
  go_wp2_with fail
  refine (len_v 40 50 36 0 aw4.1 aw4.2.1 _).mono ?_
  rintro e w1 ⟨rfl, h1⟩
  go_wp2_with fail
  refine (safe_v 40 36 50 true aw4.2.2.1 _).mono ?_
  rintro e w2 ⟨rfl, h2⟩
  go_wp2_with fail
  refine (safe_v 40 37 50 false aw4.2.2.2.1 _).mono ?_
  rintro e w3 ⟨rfl, h3⟩
  go_wp2_with fail
  refine (within_v 100 105 50 true aw4.2.2.2.2.1 _).mono ?_
  rintro e w4 ⟨rfl, h4⟩
  go_wp2_with fail
  refine (within_v 100 106 50 false aw4.2.2.2.2.2 _).mono ?_
  rintro e w5 ⟨rfl, h5⟩
  have q2 := h1.trans (h2.mono h1.size)
  have q3 := q2.trans (h3.mono q2.size)
  have q4 := q3.trans (h4.mono q3.size)
  have q5 := q4.trans (h5.mono q4.size)
  go_wp2
  go_ret
  exact ⟨rfl, q5⟩

end Go.Proofs.Ytmdhcigkhapolaa
