/- DrfOne: for every list of queues, every list of uses, every number and amount the law answers true, and its arguments read as they did. No further conditions. -/
import Derived.Test.YtdomimpcjkajiaaMD
import Derived.Test.YtdomimpcjkajiaaQV
namespace Go.Proofs.Ytdomimpcjkajiaa.drfOne
open Go.ChangeShapes Go.WideShapes Go.ChangeAt Go.RowKit Go.Deep Go.Maps Go.Shelf
set_option linter.unusedVariables false
set_option linter.unusedSimpArgs false

theorem one_rise (id : Int) : riseB [id] = true := rfl
theorem read_no_leaf {l : List Qu} {us : List Us} {id tc tm : Int} (hn : hasN (leavesR l) id = false) : readE l us [id] tc tm ≠ 0 := fun h => by
  have hl := (readE_zero h).2.2.2.2.2
  have : hasN (leavesR l) id = true := by simpa [allLeaf] using hl
  rw [hn] at this; cases this
theorem read_leaf {l : List Qu} {us : List Us} {id tc tm : Int} (hS : sumsE l us = 0) (ht : okv (tc, tm) = true) (hn : hasN (leavesR l) id = true) : readE l us [id] tc tm = 0 := by
  have hC := (sumsE_zero hS).1
  have h1 : allLeaf l [id] = true := by simpa [allLeaf] using hn
  have h2 : allThere l [id] = true := by
    have hx : hasQ l id = true := by
      unfold leavesR at hn
      rw [if_pos hC, hasN_iff] at hn
      unfold idsAt at hn
      obtain ⟨i, _, e⟩ := List.mem_map.1 hn
      exact hasQ_iff.2 ⟨i.val, i.2, e⟩
    simpa [allThere] using hx
  unfold readE
  simp [hS, ht, one_rise, h1, h2]

set_option maxRecDepth 100000 in
set_option maxHeartbeats 4000000 in
theorem walk_sums (a : Option Addr) (len cap : Nat) (l : List Qu) (ub : Option Addr) (n uc : Nat) (us : List Us) (id tc tm : Int) (w : World) (h : HoldsQ w a len cap l) (hok : ∀ q ∈ l, q.ok) (hu : HoldsU w ub n uc us) (huk : ∀ u ∈ us, u.ok) (hidI : I64 id) (h1 : I64 tc) (h2 : I64 tm) (hS : sumsE l us ≠ 0) :
    Calls Try.prog 10 #[.slice a len cap, .slice ub n uc, .int .i64 id, .agg #[.int .i64 tc, .int .i64 tm]] w fun e w' => e = .returned (.bool true) ∧ Below w.heap.size w w' := by
  have HH := hid h
  have HO := hid hok
  have HU := hid hu
  have HQ := hid (fun u hu => (huk u hu).1)
  have HW : Hid (∀ x ∈ [id], I64 x) := fun x hx => by simp at hx; rw [hx]; exact hidI
  clear h hok hu huk h1 h2
  obtain ⟨R, hRE⟩ : ∃ R, readE l us [id] tc tm = R := ⟨_, rfl⟩
  have hR0 : R ≠ 0 := by rw [← hRE]; exact fun h => hS (readE_zero h).1
  have tR : (R != 0) = true := by simpa using hR0
  have CR : Hid (chooseR l us [id] tc tm = 0) := by unfold Hid chooseR; rw [if_neg (by rw [hRE]; exact hR0)]
  have RE := hid hRE
  obtain ⟨E, hE⟩ : ∃ E, sumsE l us = E := ⟨_, rfl⟩
  have SE := hid hE
  have tE : (E != 0) = true := by rw [← hE]; simpa using hS
  clear hRE hR0 hS hE
  have m0 : (w.alloc (.cells #[.int .i64 tc, .int .i64 tm] 25)).cell? ⟨w.heap.size, 0, none⟩ = some (.int .i64 tc) := by simp [go_sem]
  have m1 : (w.alloc (.cells #[.int .i64 tc, .int .i64 tm] 25)).cell? ⟨w.heap.size, 1, none⟩ = some (.int .i64 tm) := by simp [go_sem]
  have M0 := hid m0
  have M1 := hid m1
  have BW : Hid (Below w.heap.size w (w.alloc (.cells #[.int .i64 tc, .int .i64 tm] 25))) := (Below.refl _ w).alloc (Nat.le_refl _) _
  clear m0 m1
  go_enter Try.func10, Try.ntmps10
  go_wp2_with fail
  refine (awake6_any _).mono ?_
  rintro e w1 ⟨rfl, b1⟩
  have k1 : Below w1.heap.size w1 (w1.alloc (.cells #[.int .i64 id] 3)) := (Below.refl _ _).alloc (Nat.le_refl _) _
  have B1 := hid (BW.out.trans (b1.mono BW.out.size))
  have B2 := hid (B1.out.trans (k1.mono B1.out.size))
  have m0 := keepc k1 (keepc b1 M0.out)
  have m1 := keepc k1 (keepc b1 M1.out)
  have n2 : HoldsN (w1.alloc (.cells #[.int .i64 id] 3)) (some ⟨w1.heap.size, 0, none⟩) 1 1 [id] := lit_holds encN_len w1 _ [id] _ rfl (by simp)
  have CH := hid (choose_any a len cap l ub n uc us _ 1 1 [id] tc tm (w1.alloc (.cells #[.int .i64 id] 3)) (HH.out.below B2.out) HO.out (HU.out.below B2.out) HQ.out n2 HW.out)
  rw [RE.out, CR.out] at CH
  clear b1 k1 n2
  go_wp2_with fail
  refine CH.out.mono ?_
  rintro e w3 ⟨rfl, b3⟩
  have B3 := hid (B2.out.trans (b3.mono B2.out.size))
  replace m0 := keepc b3 m0
  replace m1 := keepc b3 m1
  have SM := hid (qsums_any a len cap l ub n uc us w3 (HH.out.below B3.out) HO.out (HU.out.below B3.out) HQ.out)
  rw [SE.out] at SM
  clear b3 CH
  go_wp2_with fail
  refine SM.out.mono ?_
  rintro e w4 ⟨v4, rfl, o4, b4⟩
  obtain ⟨a4, c4, rfl, _⟩ := o4.holds
  have B4 := hid (B3.out.trans (b4.mono B3.out.size))
  replace m0 := keepc b4 m0
  replace m1 := keepc b4 m1
  have LV := hid (leaves_any a len cap l w4 (HH.out.below B4.out) HO.out)
  clear b4 o4 SM
  generalize (sumsR l us).length = SL at *
  go_wp2_with fail
  refine LV.out.mono ?_
  rintro e w5 ⟨v5, rfl, o5, b5⟩
  unfold AnsN at o5
  obtain ⟨a5, c5, rfl⟩ := o5.form
  have P5 := hid (o5.holds encN_len)
  have B5 := hid (B4.out.trans (b5.mono B4.out.size))
  replace m0 := keepc b5 m0
  replace m1 := keepc b5 m1
  have L64 := leavesR_le l
  have HA := hid (fun W (hW : Below w5.heap.size w5 W) => hasN_any a5 (leavesR l).length c5 (leavesR l) id W (P5.out.below hW) (by omega))
  clear b5 o5 LV
  generalize (leavesR l).length = LN at *
  generalize chkE l = CE at *
  go_wp2
  go_ret
  exact ⟨rfl, B5.out⟩

set_option maxRecDepth 100000 in
set_option maxHeartbeats 4000000 in
theorem walk_arg (a : Option Addr) (len cap : Nat) (l : List Qu) (ub : Option Addr) (n uc : Nat) (us : List Us) (id tc tm : Int) (w : World) (h : HoldsQ w a len cap l) (hok : ∀ q ∈ l, q.ok) (hu : HoldsU w ub n uc us) (huk : ∀ u ∈ us, u.ok) (hidI : I64 id) (h1 : I64 tc) (h2 : I64 tm) (hS : sumsE l us = 0) (ht : okv (tc, tm) = false) :
    Calls Try.prog 10 #[.slice a len cap, .slice ub n uc, .int .i64 id, .agg #[.int .i64 tc, .int .i64 tm]] w fun e w' => e = .returned (.bool true) ∧ Below w.heap.size w w' := by
  have HH := hid h
  have HO := hid hok
  have HU := hid hu
  have HQ := hid (fun u hu => (huk u hu).1)
  have HW : Hid (∀ x ∈ [id], I64 x) := fun x hx => by simp at hx; rw [hx]; exact hidI
  clear h hok hu huk h1 h2
  obtain ⟨R, hRE⟩ : ∃ R, readE l us [id] tc tm = R := ⟨_, rfl⟩
  have hR0 : R ≠ 0 := by rw [← hRE]; exact fun h => by rw [(readE_zero h).2.1] at ht; cases ht
  have tR : (R != 0) = true := by simpa using hR0
  have CR : Hid (chooseR l us [id] tc tm = 0) := by unfold Hid chooseR; rw [if_neg (by rw [hRE]; exact hR0)]
  have RE := hid hRE
  obtain ⟨E, hE⟩ : ∃ E, sumsE l us = E := ⟨_, rfl⟩
  have SE := hid hE
  have tE : (E != 0) = false := by rw [← hE, hS]; rfl
  have tk := chk_f ht
  clear hRE hR0 hS hE ht
  have m0 : (w.alloc (.cells #[.int .i64 tc, .int .i64 tm] 25)).cell? ⟨w.heap.size, 0, none⟩ = some (.int .i64 tc) := by simp [go_sem]
  have m1 : (w.alloc (.cells #[.int .i64 tc, .int .i64 tm] 25)).cell? ⟨w.heap.size, 1, none⟩ = some (.int .i64 tm) := by simp [go_sem]
  have M0 := hid m0
  have M1 := hid m1
  have BW : Hid (Below w.heap.size w (w.alloc (.cells #[.int .i64 tc, .int .i64 tm] 25))) := (Below.refl _ w).alloc (Nat.le_refl _) _
  clear m0 m1
  go_enter Try.func10, Try.ntmps10
  go_wp2_with fail
  refine (awake6_any _).mono ?_
  rintro e w1 ⟨rfl, b1⟩
  have k1 : Below w1.heap.size w1 (w1.alloc (.cells #[.int .i64 id] 3)) := (Below.refl _ _).alloc (Nat.le_refl _) _
  have B1 := hid (BW.out.trans (b1.mono BW.out.size))
  have B2 := hid (B1.out.trans (k1.mono B1.out.size))
  have m0 := keepc k1 (keepc b1 M0.out)
  have m1 := keepc k1 (keepc b1 M1.out)
  have n2 : HoldsN (w1.alloc (.cells #[.int .i64 id] 3)) (some ⟨w1.heap.size, 0, none⟩) 1 1 [id] := lit_holds encN_len w1 _ [id] _ rfl (by simp)
  have CH := hid (choose_any a len cap l ub n uc us _ 1 1 [id] tc tm (w1.alloc (.cells #[.int .i64 id] 3)) (HH.out.below B2.out) HO.out (HU.out.below B2.out) HQ.out n2 HW.out)
  rw [RE.out, CR.out] at CH
  clear b1 k1 n2
  go_wp2_with fail
  refine CH.out.mono ?_
  rintro e w3 ⟨rfl, b3⟩
  have B3 := hid (B2.out.trans (b3.mono B2.out.size))
  replace m0 := keepc b3 m0
  replace m1 := keepc b3 m1
  have SM := hid (qsums_any a len cap l ub n uc us w3 (HH.out.below B3.out) HO.out (HU.out.below B3.out) HQ.out)
  rw [SE.out] at SM
  clear b3 CH
  go_wp2_with fail
  refine SM.out.mono ?_
  rintro e w4 ⟨v4, rfl, o4, b4⟩
  obtain ⟨a4, c4, rfl, _⟩ := o4.holds
  have B4 := hid (B3.out.trans (b4.mono B3.out.size))
  replace m0 := keepc b4 m0
  replace m1 := keepc b4 m1
  have LV := hid (leaves_any a len cap l w4 (HH.out.below B4.out) HO.out)
  clear b4 o4 SM
  generalize (sumsR l us).length = SL at *
  go_wp2_with fail
  refine LV.out.mono ?_
  rintro e w5 ⟨v5, rfl, o5, b5⟩
  unfold AnsN at o5
  obtain ⟨a5, c5, rfl⟩ := o5.form
  have P5 := hid (o5.holds encN_len)
  have B5 := hid (B4.out.trans (b5.mono B4.out.size))
  replace m0 := keepc b5 m0
  replace m1 := keepc b5 m1
  have L64 := leavesR_le l
  have HA := hid (fun W (hW : Below w5.heap.size w5 W) => hasN_any a5 (leavesR l).length c5 (leavesR l) id W (P5.out.below hW) (by omega))
  clear b5 o5 LV
  generalize (leavesR l).length = LN at *
  generalize chkE l = CE at *
  go_wp2_with fail
  refine (check_any tc tm w5).mono ?_
  rintro e w6 ⟨rfl, b6⟩
  have B6 := B5.out.trans (b6.mono B5.out.size)
  go_wp2
  go_ret
  exact ⟨rfl, B6⟩

set_option maxRecDepth 100000 in
set_option maxHeartbeats 4000000 in
theorem walk_none (a : Option Addr) (len cap : Nat) (l : List Qu) (ub : Option Addr) (n uc : Nat) (us : List Us) (id tc tm : Int) (w : World) (h : HoldsQ w a len cap l) (hok : ∀ q ∈ l, q.ok) (hu : HoldsU w ub n uc us) (huk : ∀ u ∈ us, u.ok) (hidI : I64 id) (h1 : I64 tc) (h2 : I64 tm) (hS : sumsE l us = 0) (ht : okv (tc, tm) = true) (hn : hasN (leavesR l) id = false) :
    Calls Try.prog 10 #[.slice a len cap, .slice ub n uc, .int .i64 id, .agg #[.int .i64 tc, .int .i64 tm]] w fun e w' => e = .returned (.bool true) ∧ Below w.heap.size w w' := by
  have HH := hid h
  have HO := hid hok
  have HU := hid hu
  have HQ := hid (fun u hu => (huk u hu).1)
  have HW : Hid (∀ x ∈ [id], I64 x) := fun x hx => by simp at hx; rw [hx]; exact hidI
  clear h hok hu huk h1 h2
  obtain ⟨R, hRE⟩ : ∃ R, readE l us [id] tc tm = R := ⟨_, rfl⟩
  have hR0 : R ≠ 0 := by rw [← hRE]; exact read_no_leaf hn
  have tR : (R != 0) = true := by simpa using hR0
  have CR : Hid (chooseR l us [id] tc tm = 0) := by unfold Hid chooseR; rw [if_neg (by rw [hRE]; exact hR0)]
  have RE := hid hRE
  obtain ⟨E, hE⟩ : ∃ E, sumsE l us = E := ⟨_, rfl⟩
  have SE := hid hE
  have tE : (E != 0) = false := by rw [← hE, hS]; rfl
  have tk := chk_t ht
  have HN := hid hn
  clear hRE hR0 hS hE ht hn
  have m0 : (w.alloc (.cells #[.int .i64 tc, .int .i64 tm] 25)).cell? ⟨w.heap.size, 0, none⟩ = some (.int .i64 tc) := by simp [go_sem]
  have m1 : (w.alloc (.cells #[.int .i64 tc, .int .i64 tm] 25)).cell? ⟨w.heap.size, 1, none⟩ = some (.int .i64 tm) := by simp [go_sem]
  have M0 := hid m0
  have M1 := hid m1
  have BW : Hid (Below w.heap.size w (w.alloc (.cells #[.int .i64 tc, .int .i64 tm] 25))) := (Below.refl _ w).alloc (Nat.le_refl _) _
  clear m0 m1
  go_enter Try.func10, Try.ntmps10
  go_wp2_with fail
  refine (awake6_any _).mono ?_
  rintro e w1 ⟨rfl, b1⟩
  have k1 : Below w1.heap.size w1 (w1.alloc (.cells #[.int .i64 id] 3)) := (Below.refl _ _).alloc (Nat.le_refl _) _
  have B1 := hid (BW.out.trans (b1.mono BW.out.size))
  have B2 := hid (B1.out.trans (k1.mono B1.out.size))
  have m0 := keepc k1 (keepc b1 M0.out)
  have m1 := keepc k1 (keepc b1 M1.out)
  have n2 : HoldsN (w1.alloc (.cells #[.int .i64 id] 3)) (some ⟨w1.heap.size, 0, none⟩) 1 1 [id] := lit_holds encN_len w1 _ [id] _ rfl (by simp)
  have CH := hid (choose_any a len cap l ub n uc us _ 1 1 [id] tc tm (w1.alloc (.cells #[.int .i64 id] 3)) (HH.out.below B2.out) HO.out (HU.out.below B2.out) HQ.out n2 HW.out)
  rw [RE.out, CR.out] at CH
  clear b1 k1 n2
  go_wp2_with fail
  refine CH.out.mono ?_
  rintro e w3 ⟨rfl, b3⟩
  have B3 := hid (B2.out.trans (b3.mono B2.out.size))
  replace m0 := keepc b3 m0
  replace m1 := keepc b3 m1
  have SM := hid (qsums_any a len cap l ub n uc us w3 (HH.out.below B3.out) HO.out (HU.out.below B3.out) HQ.out)
  rw [SE.out] at SM
  clear b3 CH
  go_wp2_with fail
  refine SM.out.mono ?_
  rintro e w4 ⟨v4, rfl, o4, b4⟩
  obtain ⟨a4, c4, rfl, _⟩ := o4.holds
  have B4 := hid (B3.out.trans (b4.mono B3.out.size))
  replace m0 := keepc b4 m0
  replace m1 := keepc b4 m1
  have LV := hid (leaves_any a len cap l w4 (HH.out.below B4.out) HO.out)
  clear b4 o4 SM
  generalize (sumsR l us).length = SL at *
  go_wp2_with fail
  refine LV.out.mono ?_
  rintro e w5 ⟨v5, rfl, o5, b5⟩
  unfold AnsN at o5
  obtain ⟨a5, c5, rfl⟩ := o5.form
  have P5 := hid (o5.holds encN_len)
  have B5 := hid (B4.out.trans (b5.mono B4.out.size))
  replace m0 := keepc b5 m0
  replace m1 := keepc b5 m1
  have L64 := leavesR_le l
  have HA := hid (fun W (hW : Below w5.heap.size w5 W) => hasN_any a5 (leavesR l).length c5 (leavesR l) id W (P5.out.below hW) (by omega))
  clear b5 o5 LV
  generalize (leavesR l).length = LN at *
  generalize chkE l = CE at *
  rw [HN.out] at HA
  go_wp2_with fail
  refine (check_any tc tm w5).mono ?_
  rintro e w6 ⟨rfl, b6⟩
  have B6 := B5.out.trans (b6.mono B5.out.size)
  go_wp2_with fail
  refine (HA.out _ b6).mono ?_
  rintro e w7 ⟨rfl, rfl⟩
  go_wp2
  go_ret
  exact ⟨rfl, B6⟩

set_option maxRecDepth 100000 in
set_option maxHeartbeats 4000000 in
theorem walk_one (a : Option Addr) (len cap : Nat) (l : List Qu) (ub : Option Addr) (n uc : Nat) (us : List Us) (id tc tm : Int) (w : World) (h : HoldsQ w a len cap l) (hok : ∀ q ∈ l, q.ok) (hu : HoldsU w ub n uc us) (huk : ∀ u ∈ us, u.ok) (hidI : I64 id) (h1 : I64 tc) (h2 : I64 tm) (hS : sumsE l us = 0) (ht : okv (tc, tm) = true) (hn : hasN (leavesR l) id = true) :
    Calls Try.prog 10 #[.slice a len cap, .slice ub n uc, .int .i64 id, .agg #[.int .i64 tc, .int .i64 tm]] w fun e w' => e = .returned (.bool true) ∧ Below w.heap.size w w' := by
  have HH := hid h
  have HO := hid hok
  have HU := hid hu
  have HQ := hid (fun u hu => (huk u hu).1)
  have HW : Hid (∀ x ∈ [id], I64 x) := fun x hx => by simp at hx; rw [hx]; exact hidI
  clear h hok hu huk h1 h2
  have RE := hid (read_leaf hS ht hn)
  have CR := hid (one_turn (read_leaf hS ht hn))
  have SE := hid hS
  have tk := chk_t ht
  have HN := hid hn
  clear hS ht hn
  have m0 : (w.alloc (.cells #[.int .i64 tc, .int .i64 tm] 25)).cell? ⟨w.heap.size, 0, none⟩ = some (.int .i64 tc) := by simp [go_sem]
  have m1 : (w.alloc (.cells #[.int .i64 tc, .int .i64 tm] 25)).cell? ⟨w.heap.size, 1, none⟩ = some (.int .i64 tm) := by simp [go_sem]
  have M0 := hid m0
  have M1 := hid m1
  have BW : Hid (Below w.heap.size w (w.alloc (.cells #[.int .i64 tc, .int .i64 tm] 25))) := (Below.refl _ w).alloc (Nat.le_refl _) _
  clear m0 m1
  go_enter Try.func10, Try.ntmps10
  go_wp2_with fail
  refine (awake6_any _).mono ?_
  rintro e w1 ⟨rfl, b1⟩
  have k1 : Below w1.heap.size w1 (w1.alloc (.cells #[.int .i64 id] 3)) := (Below.refl _ _).alloc (Nat.le_refl _) _
  have B1 := hid (BW.out.trans (b1.mono BW.out.size))
  have B2 := hid (B1.out.trans (k1.mono B1.out.size))
  have m0 := keepc k1 (keepc b1 M0.out)
  have m1 := keepc k1 (keepc b1 M1.out)
  have n2 : HoldsN (w1.alloc (.cells #[.int .i64 id] 3)) (some ⟨w1.heap.size, 0, none⟩) 1 1 [id] := lit_holds encN_len w1 _ [id] _ rfl (by simp)
  have CH := hid (choose_any a len cap l ub n uc us _ 1 1 [id] tc tm (w1.alloc (.cells #[.int .i64 id] 3)) (HH.out.below B2.out) HO.out (HU.out.below B2.out) HQ.out n2 HW.out)
  rw [RE.out, CR.out] at CH
  clear b1 k1 n2
  go_wp2_with fail
  refine CH.out.mono ?_
  rintro e w3 ⟨rfl, b3⟩
  have B3 := hid (B2.out.trans (b3.mono B2.out.size))
  replace m0 := keepc b3 m0
  replace m1 := keepc b3 m1
  have SM := hid (qsums_any a len cap l ub n uc us w3 (HH.out.below B3.out) HO.out (HU.out.below B3.out) HQ.out)
  rw [SE.out] at SM
  clear b3 CH
  go_wp2_with fail
  refine SM.out.mono ?_
  rintro e w4 ⟨v4, rfl, o4, b4⟩
  obtain ⟨a4, c4, rfl, _⟩ := o4.holds
  have B4 := hid (B3.out.trans (b4.mono B3.out.size))
  replace m0 := keepc b4 m0
  replace m1 := keepc b4 m1
  have LV := hid (leaves_any a len cap l w4 (HH.out.below B4.out) HO.out)
  clear b4 o4 SM
  generalize (sumsR l us).length = SL at *
  go_wp2_with fail
  refine LV.out.mono ?_
  rintro e w5 ⟨v5, rfl, o5, b5⟩
  unfold AnsN at o5
  obtain ⟨a5, c5, rfl⟩ := o5.form
  have P5 := hid (o5.holds encN_len)
  have B5 := hid (B4.out.trans (b5.mono B4.out.size))
  replace m0 := keepc b5 m0
  replace m1 := keepc b5 m1
  have L64 := leavesR_le l
  have HA := hid (fun W (hW : Below w5.heap.size w5 W) => hasN_any a5 (leavesR l).length c5 (leavesR l) id W (P5.out.below hW) (by omega))
  clear b5 o5 LV
  generalize (leavesR l).length = LN at *
  generalize chkE l = CE at *
  rw [HN.out] at HA
  go_wp2_with fail
  refine (check_any tc tm w5).mono ?_
  rintro e w6 ⟨rfl, b6⟩
  have B6 := B5.out.trans (b6.mono B5.out.size)
  go_wp2_with fail
  refine (HA.out _ b6).mono ?_
  rintro e w7 ⟨rfl, rfl⟩
  go_wp2
  go_ret
  exact ⟨rfl, B6⟩

theorem walk (a : Option Addr) (len cap : Nat) (l : List Qu) (ub : Option Addr) (n uc : Nat) (us : List Us) (id tc tm : Int) (w : World) (h : HoldsQ w a len cap l) (hok : ∀ q ∈ l, q.ok) (hu : HoldsU w ub n uc us) (huk : ∀ u ∈ us, u.ok) (hidI : I64 id) (h1 : I64 tc) (h2 : I64 tm) :
    Calls Try.prog 10 #[.slice a len cap, .slice ub n uc, .int .i64 id, .agg #[.int .i64 tc, .int .i64 tm]] w fun e w' => e = .returned (.bool true) ∧ Below w.heap.size w w' := by
  by_cases hS : sumsE l us = 0
  · cases ht : okv (tc, tm)
    · exact walk_arg a len cap l ub n uc us id tc tm w h hok hu huk hidI h1 h2 hS ht
    · cases hn : hasN (leavesR l) id
      · exact walk_none a len cap l ub n uc us id tc tm w h hok hu huk hidI h1 h2 hS ht hn
      · exact walk_one a len cap l ub n uc us id tc tm w h hok hu huk hidI h1 h2 hS ht hn
  · exact walk_sums a len cap l ub n uc us id tc tm w h hok hu huk hidI h1 h2 hS

theorem own : ownKnob Try.prog.godebug = none := by kernel_rfl
theorem laidOut : laidOutB Try.prog = true := by kernel_rfl

set_option maxRecDepth 100000 in
theorem lifted (os : Os) (started : os.Started) (H : Type) (enc : TypeId × Value → H) :
    ReturnsInHanded {} Try.checked os 10 .any (Rows.drfOneSpec.pre6 enc Try.prog Try.f10 Rows.drfOneRow.domain false) (Rows.drfOneSpec.post enc Try.prog Try.f10 false true false false) := by
  refine returnsInHanded_of_change (C := Try.checked) own started (by kernel_rfl) Try.func10
    (ChangeSpec.witness6 (enc := enc) (C := Try.checked) false ⟨#[], #[.slice none 0 0, .slice none 0 0, .int .i64 0, .agg #[.int .i64 0, .int .i64 0]], []⟩ 8 (by kernel_rfl) (by kernel_rfl) (by kernel_rfl) (by kernel_rfl)) ?_
  intro W base args ds gs before hval0 hW hcnd _
  have hval : ∀ (j : Nat) t v, Try.f10.params[j]? = some t → args[j]? = some v → Value.okWide Try.prog W .any base t v := hval0
  have hW' := hW
  obtain ⟨p, q, hA0, hV, rfl, hfz, hnd⟩ := hW
  have hA : DataW.TrodAll enc Try.prog W 0 (fun _ => true) true Try.f10.params.toList args.toList ds p := hA0
  rw [Try.params10] at hA hval
  obtain ⟨v0, vs0, d0, ds0, p0, q0, hargs, rfl, rfl, h0, r0⟩ := trodAll_cons hA
  obtain ⟨v1, vs1, d1, ds1, p1, q1, rfl, rfl, rfl, h1, r1⟩ := trodAll_cons r0
  obtain ⟨v2, vs2, d2, ds2, p2, q2, rfl, rfl, rfl, h2, r2⟩ := trodAll_cons r1
  obtain ⟨v3, vs3, d3, ds3, p3, q3, rfl, rfl, rfl, h3, r3⟩ := trodAll_cons r2
  obtain ⟨rfl, rfl, rfl⟩ := trodAll_nil r3
  obtain rfl : args = #[v0, v1, v2, v3] := by cases args; simp_all
  obtain ⟨rfl, rfl⟩ := trodVars_none hV
  have lt0 : ∀ x ∈ p0, x.block < W.heap.size := by obtain ⟨m, hm⟩ := h0; exact DataW.trod_lt m _ _ _ hm
  have lt1 : ∀ x ∈ p1, x.block < W.heap.size := by obtain ⟨m, hm⟩ := h1; exact DataW.trod_lt m _ _ _ hm
  have lt2 : ∀ x ∈ p2, x.block < W.heap.size := by obtain ⟨m, hm⟩ := h2; exact DataW.trod_lt m _ _ _ hm
  have lt3 : ∀ x ∈ p3, x.block < W.heap.size := by obtain ⟨m, hm⟩ := h3; exact DataW.trod_lt m _ _ _ hm
  obtain ⟨a0, len0, cap0, rfl⟩ := okWide_slice Try.underlying22 (hval 0 22 v0 rfl rfl)
  obtain ⟨z0, w0, k0, dr0⟩ := val_rowE (k := 7) (en := Qu.cs) (ok := Qu.ok) Try.underlying22 (by kernel_rfl) Qu.cs_len (by decide) (fun _ _ _ h => trod_queue h) h0
  obtain ⟨a1, len1, cap1, rfl⟩ := okWide_slice Try.underlying23 (hval 1 23 v1 rfl rfl)
  obtain ⟨z1, w1, k1, dr1⟩ := val_rowE (k := 3) (en := Us.cs) (ok := Us.ok) Try.underlying23 (by kernel_rfl) Us.cs_len (by decide) (fun _ _ _ h => trod_use h) h1
  obtain ⟨a2, rfl, w2⟩ := val_i64 Try.underlying3 (hval 2 3 v2 rfl rfl) h2
  obtain ⟨a3_0, a3_1, rfl, w3_0, w3_1⟩ := val_vec2 Try.underlying25 Try.underlying2 Try.underlying2 (by kernel_rfl) (by kernel_rfl) (hval 3 25 v3 rfl rfl) h3
  clear hA0 hval0
  refine (walk a0 len0 cap0 z0 a1 len1 cap1 z1 a2 a3_0 a3_1 W w0 k0 w1 k1 w2 w3_0 w3_1).mono fun e W' ⟨he, bel⟩ => ?_
  subst he
  exact ⟨_, rfl, _, _, _, [], _, [], hW', trodAll_mk1 (shut_bool Try.underlying4 _), (trodAll_cons_mk (Below.trod laidOut (by kernel_rfl) (of_decide_eq_true (by kernel_rfl)) h0 bel lt0) (trodAll_cons_mk (Below.trod laidOut (by kernel_rfl) (of_decide_eq_true (by kernel_rfl)) h1 bel lt1) (trodAll_cons_mk (Below.trod laidOut (by kernel_rfl) (of_decide_eq_true (by kernel_rfl)) h2 bel lt2) (trodAll_cons_mk (Below.trod laidOut (by kernel_rfl) (of_decide_eq_true (by kernel_rfl)) h3 bel lt3) trodAll_mk0)))), rfl, bel.frame _, fun h => by cases h⟩

theorem over : Rows.drfOneRow.holds Try.pinned (OpenSpec.ofChange Rows.drfOneSpec) :=
  OpenClaim.holds_of_wide 10 Try.f10 rfl rfl rfl rfl rfl rfl rfl ⟨rfl, rfl, rfl, rfl, rfl⟩ rfl rfl rfl rfl rfl (by kernel_rfl) Try.func10 (by kernel_rfl)
    (of_decide_eq_true (by kernel_rfl)) (by unfold Func.isWrapper; first | (rw [if_pos (by decide +kernel)]; kernel_rfl) | (rw [if_neg (by decide +kernel)]; exact ⟨rfl, rfl⟩))
    (fun os started H enc _ => lifted os started H enc)

theorem proved : Rows.DrfOneSaid := over
#print axioms proved
end Go.Proofs.Ytdomimpcjkajiaa.drfOne
