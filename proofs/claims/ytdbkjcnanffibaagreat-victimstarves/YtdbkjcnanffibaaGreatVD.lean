/-
  Contracts of vec: sums and differences of amounts.
-/
import Derived.Test.YtdbkjcnanffibaaGreatVC
namespace Go.Proofs.YtdbkjcnanffibaaGreat
open Go.RowKit Go.Shelf
set_option linter.unusedVariables false

theorem okv_true {v : Int × Int} (h : okv v = true) : okp v.1 ∧ okp v.2 := by simpa [okv] using h
theorem okv_false {v : Int × Int} (h : okv v = false) : ¬ (okp v.1 ∧ okp v.2) := by simpa [okv] using h
theorem chk_ok {c m : Int} (h : okv (c, m) = true) : chk c m = 0 := by unfold chk; rw [if_pos (okv_true h)]
theorem chk_no {c m : Int} (h : okv (c, m) = false) : chk c m = 1 := by unfold chk; rw [if_neg (okv_false h)]

/-- What is answered of a result: itself, if it is an amount, else ErrOver. -/
def rin (s : Int × Int) : (Int × Int) × Int := if okv s = true then (s, 0) else ((0, 0), 2)
/-- .. if both are amounts, else ErrArg. -/
def rop (a b s : Int × Int) : (Int × Int) × Int := if okv a = true ∧ okv b = true then rin s else ((0, 0), 1)

set_option maxHeartbeats 2000000 in
theorem inRange_any (c m : Int) (w : World) :
    Calls Tryz.prog 55 #[.agg #[.int .i64 c, .int .i64 m]] w fun e w' => e = .returned (.tuple #[.agg #[.int .i64 (rin (c, m)).1.1, .int .i64 (rin (c, m)).1.2], .int .i64 (rin (c, m)).2]) ∧ Below w.heap.size w w' := by
  cases hok : okv (c, m)
  · have E : Hid (rin (c, m) = ((0, 0), 2)) := by show _ = _; unfold rin; rw [hok]; rfl
    have K := hid (chk_no hok)
    have tk : (chk c m != 0) = true := by rw [K.out]; decide
    go_enter Tryz.func55, Tryz.ntmps55
    go_wp2_with fail
    refine (check_any c m _).mono ?_
    rintro e w1 ⟨rfl, h1⟩
    have f0 := keepf h1 (a := ⟨w.heap.size + 1, 0, none⟩) (v := .int .i64 0) (by simp [go_sem]) (by simp [go_sem])
    have c0 := keepc h1 (a := ⟨w.heap.size + 1, 0, none⟩) (v := .int .i64 0) (by simp [go_sem])
    have f1 := keepf h1 (a := ⟨w.heap.size + 1, 1, none⟩) (v := .int .i64 0) (by simp [go_sem]) (by simp [go_sem])
    have c1 := keepc h1 (a := ⟨w.heap.size + 1, 1, none⟩) (v := .int .i64 0) (by simp [go_sem])
    have hB1 : Below w.heap.size w w1 := Below.trans (by repeat (first | exact Below.refl _ _ | assumption | refine Below.alloc ?_ (by simp <;> omega) _ | refine Below.setCell ?_ (by simp <;> omega) _ | refine Below.drew ?_ | refine below_drewN ?_ _)) (h1.mono (by simp <;> omega))
    go_wp2
    rw [E.out]
    exact bodyPost_ret (v := .tuple #[.agg #[.int .i64 0, .int .i64 0], .int .i64 2]) (by simp [results, Tryz.results55, go_sem, c0, c1]) rfl ⟨rfl, (hB1.setCell (by simp <;> omega) _).setCell (by simp <;> omega) _⟩
  · have E : Hid (rin (c, m) = ((c, m), 0)) := by show _ = _; unfold rin; rw [hok]; rfl
    have K := hid (chk_ok hok)
    have tk : (chk c m != 0) = false := by rw [K.out]; decide
    go_enter Tryz.func55, Tryz.ntmps55
    go_wp2_with fail
    refine (check_any c m _).mono ?_
    rintro e w1 ⟨rfl, h1⟩
    have a0 := keepc h1 (a := ⟨w.heap.size, 0, none⟩) (v := .int .i64 c) (by simp [go_sem])
    have a1 := keepc h1 (a := ⟨w.heap.size, 1, none⟩) (v := .int .i64 m) (by simp [go_sem])
    have f0 := keepf h1 (a := ⟨w.heap.size + 1, 0, none⟩) (v := .int .i64 0) (by simp [go_sem]) (by simp [go_sem])
    have c0 := keepc h1 (a := ⟨w.heap.size + 1, 0, none⟩) (v := .int .i64 0) (by simp [go_sem])
    have f1 := keepf h1 (a := ⟨w.heap.size + 1, 1, none⟩) (v := .int .i64 0) (by simp [go_sem]) (by simp [go_sem])
    have c1 := keepc h1 (a := ⟨w.heap.size + 1, 1, none⟩) (v := .int .i64 0) (by simp [go_sem])
    have hB1 : Below w.heap.size w w1 := Below.trans (by repeat (first | exact Below.refl _ _ | assumption | refine Below.alloc ?_ (by simp <;> omega) _ | refine Below.setCell ?_ (by simp <;> omega) _ | refine Below.drew ?_ | refine below_drewN ?_ _)) (h1.mono (by simp <;> omega))
    go_wp2
    rw [E.out]
    exact bodyPost_ret (v := .tuple #[.agg #[.int .i64 c, .int .i64 m], .int .i64 0]) (by simp [results, Tryz.results55, go_sem, c0, c1]) rfl ⟨rfl, (hB1.setCell (by simp <;> omega) _).setCell (by simp <;> omega) _⟩

theorem row2_two {w : World} {B : Nat} {c m d k : Int} (h0 : w.cell? ⟨B, 0, none⟩ = some (.int .i64 c)) (h1 : w.cell? ⟨B, 1, none⟩ = some (.int .i64 m)) (h2 : w.cell? ⟨B, 2, none⟩ = some (.int .i64 d)) (h3 : w.cell? ⟨B, 3, none⟩ = some (.int .i64 k)) : Row2 w B 2 [(c, m), (d, k)] := by
  refine ⟨rfl, by omega, fun j hj => ?_⟩
  obtain rfl | rfl : j = 0 ∨ j = 1 := by omega
  · exact ⟨h0, h1⟩
  · exact ⟨h2, h3⟩
theorem rop_no {a b s : Int × Int} (h : [a, b].all okv = false) : rop a b s = ((0, 0), 1) := by
  unfold rop
  rw [if_neg]
  rintro ⟨h1, h2⟩
  simp [h1, h2] at h
theorem rop_yes {a b s : Int × Int} (h : [a, b].all okv = true) : rop a b s = rin s ∧ okp a.1 ∧ okp a.2 ∧ okp b.1 ∧ okp b.2 := by
  have h' : okv a = true ∧ okv b = true := by simpa using h
  unfold rop
  rw [if_pos h']
  have h1 := okv_true h'.1
  have h2 := okv_true h'.2
  exact ⟨rfl, h1.1, h1.2, h2.1, h2.2⟩

set_option maxHeartbeats 2000000 in
theorem vadd_any (c m d k : Int) (w : World) :
    Calls Tryz.prog 33 #[.agg #[.int .i64 c, .int .i64 m], .agg #[.int .i64 d, .int .i64 k]] w fun e w' =>
      e = .returned (.tuple #[.agg #[.int .i64 (rop (c, m) (d, k) (c + d, m + k)).1.1, .int .i64 (rop (c, m) (d, k) (c + d, m + k)).1.2], .int .i64 (rop (c, m) (d, k) (c + d, m + k)).2]) ∧ Below w.heap.size w w' := by
  cases hok : [(c, m), (d, k)].all okv
  · have E := hid (rop_no (s := (c + d, m + k)) hok)
    have HK := hid hok
    clear hok
    go_enter Tryz.func33, Tryz.ntmps33
    go_wp2_with fail
    refine (amounts_any _ 2 2 [(c, m), (d, k)] _ (row2_two (by simp [go_sem]) (by simp [go_sem]) (by simp [go_sem]) (by simp [go_sem]))).mono ?_
    rintro e w1 ⟨rfl, h1⟩
    have f0 := keepf h1 (a := ⟨w.heap.size + 1 + 1, 0, none⟩) (v := .int .i64 0) (by simp [go_sem]) (by simp [go_sem])
    have c0 := keepc h1 (a := ⟨w.heap.size + 1 + 1, 0, none⟩) (v := .int .i64 0) (by simp [go_sem])
    have f1 := keepf h1 (a := ⟨w.heap.size + 1 + 1, 1, none⟩) (v := .int .i64 0) (by simp [go_sem]) (by simp [go_sem])
    have c1 := keepc h1 (a := ⟨w.heap.size + 1 + 1, 1, none⟩) (v := .int .i64 0) (by simp [go_sem])
    have hB1 : Below w.heap.size w w1 := Below.trans (by repeat (first | exact Below.refl _ _ | assumption | refine Below.alloc ?_ (by simp <;> omega) _ | refine Below.setCell ?_ (by simp <;> omega) _ | refine Below.drew ?_ | refine below_drewN ?_ _)) (h1.mono (by simp <;> omega))
    rw [HK.out]
    go_wp2
    rw [E.out]
    exact bodyPost_ret (v := .tuple #[.agg #[.int .i64 0, .int .i64 0], .int .i64 1]) (by simp [results, Tryz.results33, go_sem, c0, c1]) rfl ⟨rfl, (hB1.setCell (by simp <;> omega) _).setCell (by simp <;> omega) _⟩
  · obtain ⟨e0, ⟨o1, o2⟩, ⟨o3, o4⟩, ⟨o5, o6⟩, ⟨o7, o8⟩⟩ := rop_yes (s := (c + d, m + k)) hok
    have E := hid e0
    have HK := hid hok
    clear hok e0
    go_enter Tryz.func33, Tryz.ntmps33
    go_wp2_with fail
    refine (amounts_any _ 2 2 [(c, m), (d, k)] _ (row2_two (by simp [go_sem]) (by simp [go_sem]) (by simp [go_sem]) (by simp [go_sem]))).mono ?_
    rintro e w1 ⟨rfl, h1⟩
    have a0 := keepc h1 (a := ⟨w.heap.size, 0, none⟩) (v := .int .i64 c) (by simp [go_sem])
    have a1 := keepc h1 (a := ⟨w.heap.size, 1, none⟩) (v := .int .i64 m) (by simp [go_sem])
    have b0 := keepc h1 (a := ⟨w.heap.size + 1, 0, none⟩) (v := .int .i64 d) (by simp [go_sem])
    have b1 := keepc h1 (a := ⟨w.heap.size + 1, 1, none⟩) (v := .int .i64 k) (by simp [go_sem])
    have f0 := keepf h1 (a := ⟨w.heap.size + 1 + 1, 0, none⟩) (v := .int .i64 0) (by simp [go_sem]) (by simp [go_sem])
    have c0 := keepc h1 (a := ⟨w.heap.size + 1 + 1, 0, none⟩) (v := .int .i64 0) (by simp [go_sem])
    have f1 := keepf h1 (a := ⟨w.heap.size + 1 + 1, 1, none⟩) (v := .int .i64 0) (by simp [go_sem]) (by simp [go_sem])
    have c1 := keepc h1 (a := ⟨w.heap.size + 1 + 1, 1, none⟩) (v := .int .i64 0) (by simp [go_sem])
    have hB1 : Below w.heap.size w w1 := Below.trans (by repeat (first | exact Below.refl _ _ | assumption | refine Below.alloc ?_ (by simp <;> omega) _ | refine Below.setCell ?_ (by simp <;> omega) _ | refine Below.drew ?_ | refine below_drewN ?_ _)) (h1.mono (by simp <;> omega))
    rw [HK.out]
    go_wp2_with fail
    refine (inRange_any (c + d) (m + k) _).mono ?_
    rintro e w2 ⟨rfl, h2⟩
    have g0 := keepf h2 c0 f0; have g1 := keepf h2 c1 f1
    have d0 := keepc h2 c0; have d1 := keepc h2 c1
    have hB2 := hB1.trans (h2.mono hB1.size)
    rw [← E.out]
    clear a0 a1 b0 b1 c0 c1 f0 f1
    go_wp2
    exact bodyPost_ret (v := .tuple #[.agg #[.int .i64 (rop (c, m) (d, k) (c + d, m + k)).1.1, .int .i64 (rop (c, m) (d, k) (c + d, m + k)).1.2], .int .i64 (rop (c, m) (d, k) (c + d, m + k)).2]) (by simp [results, Tryz.results33, go_sem, d0, d1]) rfl ⟨rfl, (hB2.setCell (by simp <;> omega) _).setCell (by simp <;> omega) _⟩

set_option maxHeartbeats 2000000 in
theorem vsub_any (c m d k : Int) (w : World) :
    Calls Tryz.prog 63 #[.agg #[.int .i64 c, .int .i64 m], .agg #[.int .i64 d, .int .i64 k]] w fun e w' =>
      e = .returned (.tuple #[.agg #[.int .i64 (rop (c, m) (d, k) (c - d, m - k)).1.1, .int .i64 (rop (c, m) (d, k) (c - d, m - k)).1.2], .int .i64 (rop (c, m) (d, k) (c - d, m - k)).2]) ∧ Below w.heap.size w w' := by
  cases hok : [(c, m), (d, k)].all okv
  · have E := hid (rop_no (s := (c - d, m - k)) hok)
    have HK := hid hok
    clear hok
    go_enter Tryz.func63, Tryz.ntmps63
    go_wp2_with fail
    refine (amounts_any _ 2 2 [(c, m), (d, k)] _ (row2_two (by simp [go_sem]) (by simp [go_sem]) (by simp [go_sem]) (by simp [go_sem]))).mono ?_
    rintro e w1 ⟨rfl, h1⟩
    have f0 := keepf h1 (a := ⟨w.heap.size + 1 + 1, 0, none⟩) (v := .int .i64 0) (by simp [go_sem]) (by simp [go_sem])
    have c0 := keepc h1 (a := ⟨w.heap.size + 1 + 1, 0, none⟩) (v := .int .i64 0) (by simp [go_sem])
    have f1 := keepf h1 (a := ⟨w.heap.size + 1 + 1, 1, none⟩) (v := .int .i64 0) (by simp [go_sem]) (by simp [go_sem])
    have c1 := keepc h1 (a := ⟨w.heap.size + 1 + 1, 1, none⟩) (v := .int .i64 0) (by simp [go_sem])
    have hB1 : Below w.heap.size w w1 := Below.trans (by repeat (first | exact Below.refl _ _ | assumption | refine Below.alloc ?_ (by simp <;> omega) _ | refine Below.setCell ?_ (by simp <;> omega) _ | refine Below.drew ?_ | refine below_drewN ?_ _)) (h1.mono (by simp <;> omega))
    rw [HK.out]
    go_wp2
    rw [E.out]
    exact bodyPost_ret (v := .tuple #[.agg #[.int .i64 0, .int .i64 0], .int .i64 1]) (by simp [results, Tryz.results63, go_sem, c0, c1]) rfl ⟨rfl, (hB1.setCell (by simp <;> omega) _).setCell (by simp <;> omega) _⟩
  · obtain ⟨e0, ⟨o1, o2⟩, ⟨o3, o4⟩, ⟨o5, o6⟩, ⟨o7, o8⟩⟩ := rop_yes (s := (c - d, m - k)) hok
    have E := hid e0
    have HK := hid hok
    clear hok e0
    go_enter Tryz.func63, Tryz.ntmps63
    go_wp2_with fail
    refine (amounts_any _ 2 2 [(c, m), (d, k)] _ (row2_two (by simp [go_sem]) (by simp [go_sem]) (by simp [go_sem]) (by simp [go_sem]))).mono ?_
    rintro e w1 ⟨rfl, h1⟩
    have a0 := keepc h1 (a := ⟨w.heap.size, 0, none⟩) (v := .int .i64 c) (by simp [go_sem])
    have a1 := keepc h1 (a := ⟨w.heap.size, 1, none⟩) (v := .int .i64 m) (by simp [go_sem])
    have b0 := keepc h1 (a := ⟨w.heap.size + 1, 0, none⟩) (v := .int .i64 d) (by simp [go_sem])
    have b1 := keepc h1 (a := ⟨w.heap.size + 1, 1, none⟩) (v := .int .i64 k) (by simp [go_sem])
    have f0 := keepf h1 (a := ⟨w.heap.size + 1 + 1, 0, none⟩) (v := .int .i64 0) (by simp [go_sem]) (by simp [go_sem])
    have c0 := keepc h1 (a := ⟨w.heap.size + 1 + 1, 0, none⟩) (v := .int .i64 0) (by simp [go_sem])
    have f1 := keepf h1 (a := ⟨w.heap.size + 1 + 1, 1, none⟩) (v := .int .i64 0) (by simp [go_sem]) (by simp [go_sem])
    have c1 := keepc h1 (a := ⟨w.heap.size + 1 + 1, 1, none⟩) (v := .int .i64 0) (by simp [go_sem])
    have hB1 : Below w.heap.size w w1 := Below.trans (by repeat (first | exact Below.refl _ _ | assumption | refine Below.alloc ?_ (by simp <;> omega) _ | refine Below.setCell ?_ (by simp <;> omega) _ | refine Below.drew ?_ | refine below_drewN ?_ _)) (h1.mono (by simp <;> omega))
    rw [HK.out]
    go_wp2_with fail
    refine (inRange_any (c - d) (m - k) _).mono ?_
    rintro e w2 ⟨rfl, h2⟩
    have g0 := keepf h2 c0 f0; have g1 := keepf h2 c1 f1
    have d0 := keepc h2 c0; have d1 := keepc h2 c1
    have hB2 := hB1.trans (h2.mono hB1.size)
    rw [← E.out]
    clear a0 a1 b0 b1 c0 c1 f0 f1
    go_wp2
    exact bodyPost_ret (v := .tuple #[.agg #[.int .i64 (rop (c, m) (d, k) (c - d, m - k)).1.1, .int .i64 (rop (c, m) (d, k) (c - d, m - k)).1.2], .int .i64 (rop (c, m) (d, k) (c - d, m - k)).2]) (by simp [results, Tryz.results63, go_sem, d0, d1]) rfl ⟨rfl, (hB2.setCell (by simp <;> omega) _).setCell (by simp <;> omega) _⟩

set_option maxHeartbeats 1000000 in
theorem rfits_any (c m d k : Int) (w : World) :
    Calls Tryz.prog 20 #[.agg #[.int .i64 c, .int .i64 m], .agg #[.int .i64 d, .int .i64 k]] w fun e w' => e = .returned (.bool (fitB c m d k)) ∧ Below w.heap.size w w' := by
  by_cases h1 : c ≤ d
  · have t1 : decide (c ≤ d) = true := by simp; omega
    have E : Hid (decide (m ≤ k) = fitB c m d k) := by simp [Hid, fitB, h1]
    go_enter Tryz.func20, Tryz.ntmps20
    go_wp2
    go_ret
    exact ⟨retb E.out, (by repeat (first | exact Below.refl _ _ | assumption | refine Below.alloc ?_ (by simp <;> omega) _ | refine Below.setCell ?_ (by simp <;> omega) _ | refine Below.drew ?_ | refine below_drewN ?_ _))⟩
  · have t1 : decide (c ≤ d) = false := by simp; omega
    have E : Hid (false = fitB c m d k) := by simp [Hid, fitB, h1]
    go_enter Tryz.func20, Tryz.ntmps20
    go_wp2
    go_ret
    exact ⟨retb E.out, (by repeat (first | exact Below.refl _ _ | assumption | refine Below.alloc ?_ (by simp <;> omega) _ | refine Below.setCell ?_ (by simp <;> omega) _ | refine Below.drew ?_ | refine below_drewN ?_ _))⟩

end Go.Proofs.YtdbkjcnanffibaaGreat
