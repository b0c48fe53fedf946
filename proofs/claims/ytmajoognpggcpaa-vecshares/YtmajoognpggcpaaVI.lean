/-
  Contracts of furlongref02: Add, Sub, part, above.
-/
import Derived.Test.YtmajoognpggcpaaVH
import Derived.Test.YtmajoognpggcpaaWF
namespace Go.Proofs.Ytmajoognpggcpaa
open Go.RowKit Go.Shelf
set_option linter.unusedVariables false

theorem chks_two_ok {a b : Int × Int} (h : [a, b].all okv = true) : chks [a, b] = 0 := by unfold chks; rw [if_pos h]
theorem chks_two_no {a b : Int × Int} (h : [a, b].all okv = false) : chks [a, b] = 1 := by unfold chks; rw [h]; rfl
theorem rin_good {s : Int × Int} (h : okv s = true) : rin s = (s, 0) := by unfold rin; rw [if_pos h]
theorem rin_over {s : Int × Int} (h : okv s = false) : rin s = ((0, 0), 2) := by unfold rin; rw [h]; rfl

set_option maxHeartbeats 4000000 in
theorem radd2_any (c m d k : Int) (w : World) :
    Calls Try.prog 33 #[.agg #[.int .i64 c, .int .i64 m], .agg #[.int .i64 d, .int .i64 k]] w fun e w' =>
      e = .returned (.tuple #[.agg #[.int .i64 (rop (c, m) (d, k) (c + d, m + k)).1.1, .int .i64 (rop (c, m) (d, k) (c + d, m + k)).1.2], .int .i64 (rop (c, m) (d, k) (c + d, m + k)).2]) ∧ Below w.heap.size w w' := by
  cases hok : [(c, m), (d, k)].all okv
  · have E := hid (rop_no (s := (c + d, m + k)) hok)
    have HK := hid (chks_two_no hok)
    clear hok
    go_enter Try.func33, Try.ntmps33
    go_wp2_with fail
    refine (rcheck_any _ 2 2 [(c, m), (d, k)] _ (row2_two (by simp [go_sem]) (by simp [go_sem]) (by simp [go_sem]) (by simp [go_sem]))).mono ?_
    rintro e w1 ⟨rfl, h1⟩
    have f0 := keepf h1 (a := ⟨w.heap.size + 1 + 1, 0, none⟩) (v := .int .i64 0) (by simp [go_sem]) (by simp [go_sem])
    have c0 := keepc h1 (a := ⟨w.heap.size + 1 + 1, 0, none⟩) (v := .int .i64 0) (by simp [go_sem])
    have f1 := keepf h1 (a := ⟨w.heap.size + 1 + 1, 1, none⟩) (v := .int .i64 0) (by simp [go_sem]) (by simp [go_sem])
    have c1 := keepc h1 (a := ⟨w.heap.size + 1 + 1, 1, none⟩) (v := .int .i64 0) (by simp [go_sem])
    have hB1 : Below w.heap.size w w1 := Below.trans (by repeat (first | exact Below.refl _ _ | assumption | refine Below.alloc ?_ (by simp <;> omega) _ | refine Below.setCell ?_ (by simp <;> omega) _ | refine Below.drew ?_ | refine below_drewN ?_ _)) (h1.mono (by simp <;> omega))
    rw [HK.out]
    go_wp2
    rw [E.out]
    exact bodyPost_ret (v := .tuple #[.agg #[.int .i64 0, .int .i64 0], .int .i64 1]) (by simp [results, Try.results33, go_sem, c0, c1]) rfl ⟨rfl, (hB1.setCell (by simp <;> omega) _).setCell (by simp <;> omega) _⟩
  · obtain ⟨e0, ⟨o1, o2⟩, ⟨o3, o4⟩, ⟨o5, o6⟩, ⟨o7, o8⟩⟩ := rop_yes (s := (c + d, m + k)) hok
    have HK := hid (chks_two_ok hok)
    cases hs : okv (c + d, m + k)
    · have E : Hid (rop (c, m) (d, k) (c + d, m + k) = ((0, 0), 2)) := e0.trans (rin_over hs)
      have HG := hid hs
      clear hok e0 hs
      go_enter Try.func33, Try.ntmps33
      go_wp2_with fail
      refine (rcheck_any _ 2 2 [(c, m), (d, k)] _ (row2_two (by simp [go_sem]) (by simp [go_sem]) (by simp [go_sem]) (by simp [go_sem]))).mono ?_
      rintro e w1 ⟨rfl, h1⟩
      have a0 := keepc h1 (a := ⟨w.heap.size, 0, none⟩) (v := .int .i64 c) (by simp [go_sem])
      have a1 := keepc h1 (a := ⟨w.heap.size, 1, none⟩) (v := .int .i64 m) (by simp [go_sem])
      have b0 := keepc h1 (a := ⟨w.heap.size + 1, 0, none⟩) (v := .int .i64 d) (by simp [go_sem])
      have b1 := keepc h1 (a := ⟨w.heap.size + 1, 1, none⟩) (v := .int .i64 k) (by simp [go_sem])
      have f0 := keepf h1 (a := ⟨w.heap.size + 1 + 1, 0, none⟩) (v := .int .i64 0) (by simp [go_sem]) (by simp [go_sem])
      have c0 := keepc h1 (a := ⟨w.heap.size + 1 + 1, 0, none⟩) (v := .int .i64 0) (by simp [go_sem])
      have f1 := keepf h1 (a := ⟨w.heap.size + 1 + 1, 1, none⟩) (v := .int .i64 0) (by simp [go_sem]) (by simp [go_sem])
      have c1 := keepc h1 (a := ⟨w.heap.size + 1 + 1, 1, none⟩) (v := .int .i64 0) (by simp [go_sem])
      have hB1 : Below w.heap.size w w1 := Below.trans (by repeat (first | exact Below.refl _ _ | assumption | refine Below.alloc ?_ (by simp <;> omega) _ | refine Below.setCell ?_ (by simp <;> omega) _ | refine Below.drew ?_ | refine below_drewN ?_ _)) (h1.mono (by simp <;> omega))
      rw [HK.out]
      go_wp2_with fail
      refine (good_any (c + d) (m + k) _).mono ?_
      rintro e w2 ⟨rfl, h2⟩
      have g2 : Below w1.heap.size w1 w2 := Below.trans (by repeat (first | exact Below.refl _ _ | assumption | refine Below.alloc ?_ (by simp <;> omega) _ | refine Below.setCell ?_ (by simp <;> omega) _ | refine Below.drew ?_ | refine below_drewN ?_ _)) (h2.mono (by simp <;> omega))
      have i0 := keepf g2 c0 f0; have i1 := keepf g2 c1 f1
      have d0 := keepc g2 c0; have d1 := keepc g2 c1
      have hB2 := hB1.trans (g2.mono hB1.size)
      rw [HG.out]
      clear a0 a1 b0 b1 c0 c1 f0 f1
      go_wp2
      rw [E.out]
      exact bodyPost_ret (v := .tuple #[.agg #[.int .i64 0, .int .i64 0], .int .i64 2]) (by simp [results, Try.results33, go_sem, d0, d1]) rfl ⟨rfl, (hB2.setCell (by simp <;> omega) _).setCell (by simp <;> omega) _⟩
    · have E : Hid (rop (c, m) (d, k) (c + d, m + k) = ((c + d, m + k), 0)) := e0.trans (rin_good hs)
      have HG := hid hs
      clear hok e0 hs
      go_enter Try.func33, Try.ntmps33
      go_wp2_with fail
      refine (rcheck_any _ 2 2 [(c, m), (d, k)] _ (row2_two (by simp [go_sem]) (by simp [go_sem]) (by simp [go_sem]) (by simp [go_sem]))).mono ?_
      rintro e w1 ⟨rfl, h1⟩
      have a0 := keepc h1 (a := ⟨w.heap.size, 0, none⟩) (v := .int .i64 c) (by simp [go_sem])
      have a1 := keepc h1 (a := ⟨w.heap.size, 1, none⟩) (v := .int .i64 m) (by simp [go_sem])
      have b0 := keepc h1 (a := ⟨w.heap.size + 1, 0, none⟩) (v := .int .i64 d) (by simp [go_sem])
      have b1 := keepc h1 (a := ⟨w.heap.size + 1, 1, none⟩) (v := .int .i64 k) (by simp [go_sem])
      have f0 := keepf h1 (a := ⟨w.heap.size + 1 + 1, 0, none⟩) (v := .int .i64 0) (by simp [go_sem]) (by simp [go_sem])
      have c0 := keepc h1 (a := ⟨w.heap.size + 1 + 1, 0, none⟩) (v := .int .i64 0) (by simp [go_sem])
      have f1 := keepf h1 (a := ⟨w.heap.size + 1 + 1, 1, none⟩) (v := .int .i64 0) (by simp [go_sem]) (by simp [go_sem])
      have c1 := keepc h1 (a := ⟨w.heap.size + 1 + 1, 1, none⟩) (v := .int .i64 0) (by simp [go_sem])
      have hB1 : Below w.heap.size w w1 := Below.trans (by repeat (first | exact Below.refl _ _ | assumption | refine Below.alloc ?_ (by simp <;> omega) _ | refine Below.setCell ?_ (by simp <;> omega) _ | refine Below.drew ?_ | refine below_drewN ?_ _)) (h1.mono (by simp <;> omega))
      rw [HK.out]
      go_wp2_with fail
      refine (good_any (c + d) (m + k) _).mono ?_
      rintro e w2 ⟨rfl, h2⟩
      have s0 := keepc h2 (a := ⟨w1.heap.size, 0, none⟩) (v := .int .i64 (c + d)) (by simp [go_sem])
      have s1 := keepc h2 (a := ⟨w1.heap.size, 1, none⟩) (v := .int .i64 (m + k)) (by simp [go_sem])
      have g2 : Below w1.heap.size w1 w2 := Below.trans (by repeat (first | exact Below.refl _ _ | assumption | refine Below.alloc ?_ (by simp <;> omega) _ | refine Below.setCell ?_ (by simp <;> omega) _ | refine Below.drew ?_ | refine below_drewN ?_ _)) (h2.mono (by simp <;> omega))
      have i0 := keepf g2 c0 f0; have i1 := keepf g2 c1 f1
      have d0 := keepc g2 c0; have d1 := keepc g2 c1
      have hB2 := hB1.trans (g2.mono hB1.size)
      rw [HG.out]
      clear a0 a1 b0 b1 c0 c1 f0 f1
      go_wp2
      rw [E.out]
      exact bodyPost_ret (v := .tuple #[.agg #[.int .i64 (c + d), .int .i64 (m + k)], .int .i64 0]) (by simp [results, Try.results33, go_sem, d0, d1]) rfl ⟨rfl, (hB2.setCell (by simp <;> omega) _).setCell (by simp <;> omega) _⟩

set_option maxHeartbeats 4000000 in
theorem rsub2_any (c m d k : Int) (w : World) :
    Calls Try.prog 34 #[.agg #[.int .i64 c, .int .i64 m], .agg #[.int .i64 d, .int .i64 k]] w fun e w' =>
      e = .returned (.tuple #[.agg #[.int .i64 (rop (c, m) (d, k) (c - d, m - k)).1.1, .int .i64 (rop (c, m) (d, k) (c - d, m - k)).1.2], .int .i64 (rop (c, m) (d, k) (c - d, m - k)).2]) ∧ Below w.heap.size w w' := by
  cases hok : [(c, m), (d, k)].all okv
  · have E := hid (rop_no (s := (c - d, m - k)) hok)
    have HK := hid (chks_two_no hok)
    clear hok
    go_enter Try.func34, Try.ntmps34
    go_wp2_with fail
    refine (rcheck_any _ 2 2 [(c, m), (d, k)] _ (row2_two (by simp [go_sem]) (by simp [go_sem]) (by simp [go_sem]) (by simp [go_sem]))).mono ?_
    rintro e w1 ⟨rfl, h1⟩
    have f0 := keepf h1 (a := ⟨w.heap.size + 1 + 1, 0, none⟩) (v := .int .i64 0) (by simp [go_sem]) (by simp [go_sem])
    have c0 := keepc h1 (a := ⟨w.heap.size + 1 + 1, 0, none⟩) (v := .int .i64 0) (by simp [go_sem])
    have f1 := keepf h1 (a := ⟨w.heap.size + 1 + 1, 1, none⟩) (v := .int .i64 0) (by simp [go_sem]) (by simp [go_sem])
    have c1 := keepc h1 (a := ⟨w.heap.size + 1 + 1, 1, none⟩) (v := .int .i64 0) (by simp [go_sem])
    have hB1 : Below w.heap.size w w1 := Below.trans (by repeat (first | exact Below.refl _ _ | assumption | refine Below.alloc ?_ (by simp <;> omega) _ | refine Below.setCell ?_ (by simp <;> omega) _ | refine Below.drew ?_ | refine below_drewN ?_ _)) (h1.mono (by simp <;> omega))
    rw [HK.out]
    go_wp2
    rw [E.out]
    exact bodyPost_ret (v := .tuple #[.agg #[.int .i64 0, .int .i64 0], .int .i64 1]) (by simp [results, Try.results34, go_sem, c0, c1]) rfl ⟨rfl, (hB1.setCell (by simp <;> omega) _).setCell (by simp <;> omega) _⟩
  · obtain ⟨e0, ⟨o1, o2⟩, ⟨o3, o4⟩, ⟨o5, o6⟩, ⟨o7, o8⟩⟩ := rop_yes (s := (c - d, m - k)) hok
    have HK := hid (chks_two_ok hok)
    cases hs : okv (c - d, m - k)
    · have E : Hid (rop (c, m) (d, k) (c - d, m - k) = ((0, 0), 2)) := e0.trans (rin_over hs)
      have HG := hid hs
      clear hok e0 hs
      go_enter Try.func34, Try.ntmps34
      go_wp2_with fail
      refine (rcheck_any _ 2 2 [(c, m), (d, k)] _ (row2_two (by simp [go_sem]) (by simp [go_sem]) (by simp [go_sem]) (by simp [go_sem]))).mono ?_
      rintro e w1 ⟨rfl, h1⟩
      have a0 := keepc h1 (a := ⟨w.heap.size, 0, none⟩) (v := .int .i64 c) (by simp [go_sem])
      have a1 := keepc h1 (a := ⟨w.heap.size, 1, none⟩) (v := .int .i64 m) (by simp [go_sem])
      have b0 := keepc h1 (a := ⟨w.heap.size + 1, 0, none⟩) (v := .int .i64 d) (by simp [go_sem])
      have b1 := keepc h1 (a := ⟨w.heap.size + 1, 1, none⟩) (v := .int .i64 k) (by simp [go_sem])
      have f0 := keepf h1 (a := ⟨w.heap.size + 1 + 1, 0, none⟩) (v := .int .i64 0) (by simp [go_sem]) (by simp [go_sem])
      have c0 := keepc h1 (a := ⟨w.heap.size + 1 + 1, 0, none⟩) (v := .int .i64 0) (by simp [go_sem])
      have f1 := keepf h1 (a := ⟨w.heap.size + 1 + 1, 1, none⟩) (v := .int .i64 0) (by simp [go_sem]) (by simp [go_sem])
      have c1 := keepc h1 (a := ⟨w.heap.size + 1 + 1, 1, none⟩) (v := .int .i64 0) (by simp [go_sem])
      have hB1 : Below w.heap.size w w1 := Below.trans (by repeat (first | exact Below.refl _ _ | assumption | refine Below.alloc ?_ (by simp <;> omega) _ | refine Below.setCell ?_ (by simp <;> omega) _ | refine Below.drew ?_ | refine below_drewN ?_ _)) (h1.mono (by simp <;> omega))
      rw [HK.out]
      go_wp2_with fail
      refine (good_any (c - d) (m - k) _).mono ?_
      rintro e w2 ⟨rfl, h2⟩
      have g2 : Below w1.heap.size w1 w2 := Below.trans (by repeat (first | exact Below.refl _ _ | assumption | refine Below.alloc ?_ (by simp <;> omega) _ | refine Below.setCell ?_ (by simp <;> omega) _ | refine Below.drew ?_ | refine below_drewN ?_ _)) (h2.mono (by simp <;> omega))
      have i0 := keepf g2 c0 f0; have i1 := keepf g2 c1 f1
      have d0 := keepc g2 c0; have d1 := keepc g2 c1
      have hB2 := hB1.trans (g2.mono hB1.size)
      rw [HG.out]
      clear a0 a1 b0 b1 c0 c1 f0 f1
      go_wp2
      rw [E.out]
      exact bodyPost_ret (v := .tuple #[.agg #[.int .i64 0, .int .i64 0], .int .i64 2]) (by simp [results, Try.results34, go_sem, d0, d1]) rfl ⟨rfl, (hB2.setCell (by simp <;> omega) _).setCell (by simp <;> omega) _⟩
    · have E : Hid (rop (c, m) (d, k) (c - d, m - k) = ((c - d, m - k), 0)) := e0.trans (rin_good hs)
      have HG := hid hs
      clear hok e0 hs
      go_enter Try.func34, Try.ntmps34
      go_wp2_with fail
      refine (rcheck_any _ 2 2 [(c, m), (d, k)] _ (row2_two (by simp [go_sem]) (by simp [go_sem]) (by simp [go_sem]) (by simp [go_sem]))).mono ?_
      rintro e w1 ⟨rfl, h1⟩
      have a0 := keepc h1 (a := ⟨w.heap.size, 0, none⟩) (v := .int .i64 c) (by simp [go_sem])
      have a1 := keepc h1 (a := ⟨w.heap.size, 1, none⟩) (v := .int .i64 m) (by simp [go_sem])
      have b0 := keepc h1 (a := ⟨w.heap.size + 1, 0, none⟩) (v := .int .i64 d) (by simp [go_sem])
      have b1 := keepc h1 (a := ⟨w.heap.size + 1, 1, none⟩) (v := .int .i64 k) (by simp [go_sem])
      have f0 := keepf h1 (a := ⟨w.heap.size + 1 + 1, 0, none⟩) (v := .int .i64 0) (by simp [go_sem]) (by simp [go_sem])
      have c0 := keepc h1 (a := ⟨w.heap.size + 1 + 1, 0, none⟩) (v := .int .i64 0) (by simp [go_sem])
      have f1 := keepf h1 (a := ⟨w.heap.size + 1 + 1, 1, none⟩) (v := .int .i64 0) (by simp [go_sem]) (by simp [go_sem])
      have c1 := keepc h1 (a := ⟨w.heap.size + 1 + 1, 1, none⟩) (v := .int .i64 0) (by simp [go_sem])
      have hB1 : Below w.heap.size w w1 := Below.trans (by repeat (first | exact Below.refl _ _ | assumption | refine Below.alloc ?_ (by simp <;> omega) _ | refine Below.setCell ?_ (by simp <;> omega) _ | refine Below.drew ?_ | refine below_drewN ?_ _)) (h1.mono (by simp <;> omega))
      rw [HK.out]
      go_wp2_with fail
      refine (good_any (c - d) (m - k) _).mono ?_
      rintro e w2 ⟨rfl, h2⟩
      have s0 := keepc h2 (a := ⟨w1.heap.size, 0, none⟩) (v := .int .i64 (c - d)) (by simp [go_sem])
      have s1 := keepc h2 (a := ⟨w1.heap.size, 1, none⟩) (v := .int .i64 (m - k)) (by simp [go_sem])
      have g2 : Below w1.heap.size w1 w2 := Below.trans (by repeat (first | exact Below.refl _ _ | assumption | refine Below.alloc ?_ (by simp <;> omega) _ | refine Below.setCell ?_ (by simp <;> omega) _ | refine Below.drew ?_ | refine below_drewN ?_ _)) (h2.mono (by simp <;> omega))
      have i0 := keepf g2 c0 f0; have i1 := keepf g2 c1 f1
      have d0 := keepc g2 c0; have d1 := keepc g2 c1
      have hB2 := hB1.trans (g2.mono hB1.size)
      rw [HG.out]
      clear a0 a1 b0 b1 c0 c1 f0 f1
      go_wp2
      rw [E.out]
      exact bodyPost_ret (v := .tuple #[.agg #[.int .i64 (c - d), .int .i64 (m - k)], .int .i64 0]) (by simp [results, Try.results34, go_sem, d0, d1]) rfl ⟨rfl, (hB2.setCell (by simp <;> omega) _).setCell (by simp <;> omega) _⟩

set_option maxHeartbeats 1000000 in
theorem part_any (p q : Int) (w : World) :
    Calls Try.prog 78 #[.int .i64 p, .int .i64 q] w fun e w' => e = .returned (.agg #[.int .i64 (shr p q).1, .int .i64 (shr p q).2]) ∧ Below w.heap.size w w' := by
  by_cases h1 : 0 < q
  · have t1 : decide (0 < q) = true := by simp; omega
    have E : Hid (shr p q = (p, q)) := by show _ = _; unfold shr; rw [if_pos h1]
    go_enter Try.func78, Try.ntmps78
    go_wp2
    rw [E.out]
    exact bodyPost_ret (v := .agg #[.int .i64 p, .int .i64 q]) (by simp [results, Try.results78, go_sem]) rfl ⟨rfl, (by repeat (first | exact Below.refl _ _ | assumption | refine Below.alloc ?_ (by simp <;> omega) _ | refine Below.setCell ?_ (by simp <;> omega) _ | refine Below.drew ?_ | refine below_drewN ?_ _))⟩
  · have t1 : decide (0 < q) = false := by simp; omega
    by_cases h2 : 0 < p
    · have t2 : decide (0 < p) = true := by simp; omega
      have E : Hid (shr p q = (1, 0)) := by show _ = _; unfold shr; rw [if_neg h1, if_pos h2]
      go_enter Try.func78, Try.ntmps78
      go_wp2
      rw [E.out]
      exact bodyPost_ret (v := .agg #[.int .i64 1, .int .i64 0]) (by simp [results, Try.results78, go_sem]) rfl ⟨rfl, (by repeat (first | exact Below.refl _ _ | assumption | refine Below.alloc ?_ (by simp <;> omega) _ | refine Below.setCell ?_ (by simp <;> omega) _ | refine Below.drew ?_ | refine below_drewN ?_ _))⟩
    · have t2 : decide (0 < p) = false := by simp; omega
      have E : Hid (shr p q = (0, 1)) := by show _ = _; unfold shr; rw [if_neg h1, if_neg h2]
      go_enter Try.func78, Try.ntmps78
      go_wp2
      rw [E.out]
      exact bodyPost_ret (v := .agg #[.int .i64 0, .int .i64 1]) (by simp [results, Try.results78, go_sem]) rfl ⟨rfl, (by repeat (first | exact Below.refl _ _ | assumption | refine Below.alloc ?_ (by simp <;> omega) _ | refine Below.setCell ?_ (by simp <;> omega) _ | refine Below.drew ?_ | refine below_drewN ?_ _))⟩

set_option maxHeartbeats 4000000 in
theorem above_any (a b c d : Int) (ha : I64 a) (hb : I64 b) (hc : I64 c) (hd : I64 d) (w : World) :
    Calls Try.prog 79 #[.agg #[.int .i64 a, .int .i64 b], .agg #[.int .i64 c, .int .i64 d]] w fun e w' => e = .returned (.bool (decide (c * b < a * d))) ∧ Below w.heap.size w w' := by
  have C1 := hid (fun w => times_any c b hc hb w)
  have C2 := hid (fun w => times_any a d ha hd w)
  have C3 := hid (fun w => less_any (c * b) (a * d) w)
  clear ha hb hc hd
  generalize hX : c * b = X at *
  generalize hY : a * d = Y at *
  clear hX hY
  go_enter Try.func79, Try.ntmps79
  go_upto_region 1 with fail
  have hB : Below w.heap.size w ((w.alloc (.cells #[.int .i64 a, .int .i64 b] 86)).alloc (.cells #[.int .i64 c, .int .i64 d] 86)) := (by repeat (first | exact Below.refl _ _ | assumption | refine Below.alloc ?_ (by simp <;> omega) _ | refine Below.setCell ?_ (by simp <;> omega) _ | refine Below.drew ?_ | refine below_drewN ?_ _))
  have c0 : ((w.alloc (.cells #[.int .i64 a, .int .i64 b] 86)).alloc (.cells #[.int .i64 c, .int .i64 d] 86)).cell? ⟨w.heap.size, 0, none⟩ = some (.int .i64 a) := by simp [go_sem]
  have c1 : ((w.alloc (.cells #[.int .i64 a, .int .i64 b] 86)).alloc (.cells #[.int .i64 c, .int .i64 d] 86)).cell? ⟨w.heap.size, 1, none⟩ = some (.int .i64 b) := by simp [go_sem]
  have c2 : ((w.alloc (.cells #[.int .i64 a, .int .i64 b] 86)).alloc (.cells #[.int .i64 c, .int .i64 d] 86)).cell? ⟨w.heap.size + 1, 0, none⟩ = some (.int .i64 c) := by simp [go_sem]
  have c3 : ((w.alloc (.cells #[.int .i64 a, .int .i64 b] 86)).alloc (.cells #[.int .i64 c, .int .i64 d] 86)).cell? ⟨w.heap.size + 1, 1, none⟩ = some (.int .i64 d) := by simp [go_sem]
  generalize (w.alloc (.cells #[.int .i64 a, .int .i64 b] 86)).alloc (.cells #[.int .i64 c, .int .i64 d] 86) = W at *
  have hB := hB.drew
  go_region_held3 (fun w' => w'.cell? ⟨w.heap.size, 0, none⟩ = some (.int .i64 a) ∧ w'.cell? ⟨w.heap.size, 1, none⟩ = some (.int .i64 b) ∧ w'.cell? ⟨w.heap.size + 1, 0, none⟩ = some (.int .i64 c) ∧ w'.cell? ⟨w.heap.size + 1, 1, none⟩ = some (.int .i64 d)) (exact ⟨c0, c1, c2, c3⟩)
    (first
    | (go_at_call 49; first | ((with_reducible refine (C1.out _).mono ?_); rintro e w' ⟨rfl, hq⟩; have c0 := keepc hq c0; have c1 := keepc hq c1; have c2 := keepc hq c2; have c3 := keepc hq c3; have hB := hB.trans (hq.mono hB.size)) | ((with_reducible refine (C2.out _).mono ?_); rintro e w' ⟨rfl, hq⟩; have c0 := keepc hq c0; have c1 := keepc hq c1; have c2 := keepc hq c2; have c3 := keepc hq c3; have hB := hB.trans (hq.mono hB.size)))
    | (go_at_call 54; (with_reducible refine (C3.out _).mono ?_); rintro e w' ⟨rfl, hq⟩; have c0 := keepc hq c0; have c1 := keepc hq c1; have c2 := keepc hq c2; have c3 := keepc hq c3; have hB := hB.trans (hq.mono hB.size)))
  all_goals
    go_wp2
    go_ret
    exact ⟨rfl, hB⟩

end Go.Proofs.Ytmajoognpggcpaa
