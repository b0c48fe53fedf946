/- QueueEdits: for every list of queues, every queue and every number the law answers true, and its arguments read as they did. No further conditions. -/
import Derived.Test.YtcfaciicljjpoaaQT
import Derived.Test.YtcfaciicljjpoaaQV
import Derived.Test.YtcfaciicljjpoaaRG
import Derived.Test.YtcfaciicljjpoaaRJ
namespace Go.Proofs.Ytcfaciicljjpoaa.queueEdits
open Go.ChangeShapes Go.WideShapes Go.ChangeAt Go.RowKit Go.Deep
set_option linter.unusedVariables false

theorem dropR_len (l : List Qu) (id : Int) : (dropR l id).length ≤ 64 := by
  unfold dropR
  split
  · rename_i h
    have hc : chkE l = 0 := by
      unfold dropE at h
      split at h
      · rename_i h2; exact absurd h h2
      · rename_i h2; exact Decidable.of_not_not h2
    have := (chkE_ok.1 hc).1
    unfold dropM
    rw [List.length_append, List.length_take, List.length_drop]
    omega
  · simp

set_option maxRecDepth 100000 in
set_option maxHeartbeats 8000000 in
theorem walk (a : Option Addr) (len cap : Nat) (l : List Qu) (q : Qu) (id : Int) (w : World) (h : HoldsQ w a len cap l) (hok : ∀ q ∈ l, q.ok) (hs : cap * 56 ≤ 140737488351232) (hq : q.ok) (hid' : I64 id) :
    Calls Try.prog 3 #[.slice a len cap, qv q, .int .i64 id] w fun e w' => e = .returned (.bool true) ∧ Below w.heap.size w w' := by
  have HO := hid hok
  have HI := hid hid'
  have HQ := hid hq
  have hcap0 := h.2.1
  have LA := hid (addR_len l q)
  have LS := hid (setR_len l q)
  have LD := hid (dropR_len l id)
  have t0 : (chkE l == chkE l) = true := by simp
  have t1 : (addE l q == addE l q) = true := by simp
  have t2 : (dropE l id == dropE l id) = true := by simp
  have t3 : (setE l q == setE l q) = true := by simp
  obtain ⟨q1, q2, q3, q4, q5, q6, q7⟩ := q
  try simp only at *
  have HH := hid (h.below ((Below.refl _ w).alloc (Nat.le_refl _) (.cells #[.int .i64 q1, .int .i64 q2, .int .i64 q3, .int .i64 q4, .int .i64 q5, .int .i64 q6, .int .i64 q7] 26)))
  have HW0 := hid ((Below.refl _ w).alloc (Nat.le_refl _) (.cells #[.int .i64 q1, .int .i64 q2, .int .i64 q3, .int .i64 q4, .int .i64 q5, .int .i64 q6, .int .i64 q7] 26))
  clear h hok hid' hq
  go_enter Try.func3, Try.ntmps3
  go_wp2_with fail
  refine (awake_any _).mono ?_
  rintro e w1 ⟨rfl, b1⟩
  have H1 := hid (HH.out.below b1)
  have B1 := hid b1
  clear b1
  go_wp2_with fail
  refine (twin_any a len cap l w1 H1.out hs).mono ?_
  rintro e w2 ⟨g, c, rfl, T2, b2⟩
  have HT2 := hid T2
  have H2 := hid (H1.out.below b2)
  have B2 := hid (B1.out.trans (b2.mono B1.out.size))
  clear T2 b2 H1 HH B1
  have m0 := keepc B2.out (a := ⟨w.heap.size, 0, none⟩) (v := .int .i64 q1) (by simp [go_sem])
  have m1 := keepc B2.out (a := ⟨w.heap.size, 1, none⟩) (v := .int .i64 q2) (by simp [go_sem])
  have m2 := keepc B2.out (a := ⟨w.heap.size, 2, none⟩) (v := .int .i64 q3) (by simp [go_sem])
  have m3 := keepc B2.out (a := ⟨w.heap.size, 3, none⟩) (v := .int .i64 q4) (by simp [go_sem])
  have m4 := keepc B2.out (a := ⟨w.heap.size, 4, none⟩) (v := .int .i64 q5) (by simp [go_sem])
  have m5 := keepc B2.out (a := ⟨w.heap.size, 5, none⟩) (v := .int .i64 q6) (by simp [go_sem])
  have m6 := keepc B2.out (a := ⟨w.heap.size, 6, none⟩) (v := .int .i64 q7) (by simp [go_sem])
  go_wp2_with fail
  refine (add_q (some ⟨g, 0, none⟩) len c l ⟨q1, q2, q3, q4, q5, q6, q7⟩ w2 HT2.out.holds HO.out HQ.out).mono ?_
  rintro e w3 ⟨v3, rfl, o3, b3⟩
  obtain ⟨a3, c3, rfl, P3⟩ := o3.holds
  have P3_3 := hid P3
  clear P3
  have HT3 := hid (HT2.out.below b3)
  have H3 := hid (H2.out.below b3)
  have B3 := hid (B2.out.trans (b3.mono B2.out.size))
  clear o3 b3 HT2 H2 B2 m0 m1 m2 m3 m4 m5 m6
  have m0 := keepc B3.out (a := ⟨w.heap.size, 0, none⟩) (v := .int .i64 q1) (by simp [go_sem])
  have m1 := keepc B3.out (a := ⟨w.heap.size, 1, none⟩) (v := .int .i64 q2) (by simp [go_sem])
  have m2 := keepc B3.out (a := ⟨w.heap.size, 2, none⟩) (v := .int .i64 q3) (by simp [go_sem])
  have m3 := keepc B3.out (a := ⟨w.heap.size, 3, none⟩) (v := .int .i64 q4) (by simp [go_sem])
  have m4 := keepc B3.out (a := ⟨w.heap.size, 4, none⟩) (v := .int .i64 q5) (by simp [go_sem])
  have m5 := keepc B3.out (a := ⟨w.heap.size, 5, none⟩) (v := .int .i64 q6) (by simp [go_sem])
  have m6 := keepc B3.out (a := ⟨w.heap.size, 6, none⟩) (v := .int .i64 q7) (by simp [go_sem])
  go_wp2_with fail
  refine (radd_any5 a len cap l ⟨q1, q2, q3, q4, q5, q6, q7⟩ w3 H3.out).mono ?_
  rintro e w4 ⟨v4, rfl, o4, b4⟩
  obtain ⟨a4, c4, rfl, P4⟩ := o4.holds
  have P4_4 := hid P4
  clear P4
  have HT4 := hid (HT3.out.below b4)
  have H4 := hid (H3.out.below b4)
  have B4 := hid (B3.out.trans (b4.mono B3.out.size))
  have P3_4 := hid (P3_3.out.below b4)
  clear o4 b4 HT3 H3 B3 P3_3 m0 m1 m2 m3 m4 m5 m6
  have m0 := keepc B4.out (a := ⟨w.heap.size, 0, none⟩) (v := .int .i64 q1) (by simp [go_sem])
  have m1 := keepc B4.out (a := ⟨w.heap.size, 1, none⟩) (v := .int .i64 q2) (by simp [go_sem])
  have m2 := keepc B4.out (a := ⟨w.heap.size, 2, none⟩) (v := .int .i64 q3) (by simp [go_sem])
  have m3 := keepc B4.out (a := ⟨w.heap.size, 3, none⟩) (v := .int .i64 q4) (by simp [go_sem])
  have m4 := keepc B4.out (a := ⟨w.heap.size, 4, none⟩) (v := .int .i64 q5) (by simp [go_sem])
  have m5 := keepc B4.out (a := ⟨w.heap.size, 5, none⟩) (v := .int .i64 q6) (by simp [go_sem])
  have m6 := keepc B4.out (a := ⟨w.heap.size, 6, none⟩) (v := .int .i64 q7) (by simp [go_sem])
  go_wp2_with fail
  refine (set_any (some ⟨g, 0, none⟩) len c l ⟨q1, q2, q3, q4, q5, q6, q7⟩ w4 HT4.out.holds HO.out HQ.out).mono ?_
  rintro e w5 ⟨v5, rfl, o5, b5⟩
  obtain ⟨a5, c5, rfl, P5⟩ := o5.holds
  have P5_5 := hid P5
  clear P5
  have HT5 := hid (HT4.out.below b5)
  have H5 := hid (H4.out.below b5)
  have B5 := hid (B4.out.trans (b5.mono B4.out.size))
  have P3_5 := hid (P3_4.out.below b5)
  have P4_5 := hid (P4_4.out.below b5)
  clear o5 b5 HT4 H4 B4 P3_4 P4_4 m0 m1 m2 m3 m4 m5 m6
  have m0 := keepc B5.out (a := ⟨w.heap.size, 0, none⟩) (v := .int .i64 q1) (by simp [go_sem])
  have m1 := keepc B5.out (a := ⟨w.heap.size, 1, none⟩) (v := .int .i64 q2) (by simp [go_sem])
  have m2 := keepc B5.out (a := ⟨w.heap.size, 2, none⟩) (v := .int .i64 q3) (by simp [go_sem])
  have m3 := keepc B5.out (a := ⟨w.heap.size, 3, none⟩) (v := .int .i64 q4) (by simp [go_sem])
  have m4 := keepc B5.out (a := ⟨w.heap.size, 4, none⟩) (v := .int .i64 q5) (by simp [go_sem])
  have m5 := keepc B5.out (a := ⟨w.heap.size, 5, none⟩) (v := .int .i64 q6) (by simp [go_sem])
  have m6 := keepc B5.out (a := ⟨w.heap.size, 6, none⟩) (v := .int .i64 q7) (by simp [go_sem])
  go_wp2_with fail
  refine (rset_any a len cap l ⟨q1, q2, q3, q4, q5, q6, q7⟩ w5 H5.out).mono ?_
  rintro e w6 ⟨v6, rfl, o6, b6⟩
  obtain ⟨a6, c6, rfl, P6⟩ := o6.holds
  have P6_6 := hid P6
  clear P6
  have HT6 := hid (HT5.out.below b6)
  have H6 := hid (H5.out.below b6)
  have B6 := hid (B5.out.trans (b6.mono B5.out.size))
  have P3_6 := hid (P3_5.out.below b6)
  have P4_6 := hid (P4_5.out.below b6)
  have P5_6 := hid (P5_5.out.below b6)
  clear o6 b6 HT5 H5 B5 P3_5 P4_5 P5_5 m0 m1 m2 m3 m4 m5 m6
  go_wp2_with fail
  refine (drop_any (some ⟨g, 0, none⟩) len c l id w6 HT6.out.holds HO.out HI.out).mono ?_
  rintro e w7 ⟨v7, rfl, o7, b7⟩
  obtain ⟨a7, c7, rfl, P7⟩ := o7.holds
  have P7_7 := hid P7
  clear P7
  have HT7 := hid (HT6.out.below b7)
  have H7 := hid (H6.out.below b7)
  have B7 := hid (B6.out.trans (b7.mono B6.out.size))
  have P3_7 := hid (P3_6.out.below b7)
  have P4_7 := hid (P4_6.out.below b7)
  have P5_7 := hid (P5_6.out.below b7)
  have P6_7 := hid (P6_6.out.below b7)
  clear o7 b7 HT6 H6 B6 P3_6 P4_6 P5_6 P6_6
  go_wp2_with fail
  refine (rdrop_any a len cap l id w7 H7.out).mono ?_
  rintro e w8 ⟨v8, rfl, o8, b8⟩
  obtain ⟨a8, c8, rfl⟩ := o8.form
  have P8_8 := hid (o8.holds Qu.cs_len)
  have HT8 := hid (HT7.out.below b8)
  have H8 := hid (H7.out.below b8)
  have B8 := hid (B7.out.trans (b8.mono B7.out.size))
  have P3_8 := hid (P3_7.out.below b8)
  have P4_8 := hid (P4_7.out.below b8)
  have P5_8 := hid (P5_7.out.below b8)
  have P6_8 := hid (P6_7.out.below b8)
  have P7_8 := hid (P7_7.out.below b8)
  clear o8 b8 HT7 H7 B7 P3_7 P4_7 P5_7 P6_7 P7_7
  go_wp2_with fail
  refine (check_q (some ⟨g, 0, none⟩) len c l w8 HT8.out.holds HO.out).mono ?_
  rintro e w9 ⟨rfl, b9⟩
  have HT9 := hid (HT8.out.below b9)
  have H9 := hid (H8.out.below b9)
  have B9 := hid (B8.out.trans (b9.mono B8.out.size))
  have P3_9 := hid (P3_8.out.below b9)
  have P4_9 := hid (P4_8.out.below b9)
  have P5_9 := hid (P5_8.out.below b9)
  have P6_9 := hid (P6_8.out.below b9)
  have P7_9 := hid (P7_8.out.below b9)
  have P8_9 := hid (P8_8.out.below b9)
  clear b9 HT8 H8 B8 P3_8 P4_8 P5_8 P6_8 P7_8 P8_8
  go_wp2_with fail
  refine (rcheckq_any a len cap l w9 H9.out).mono ?_
  rintro e w10 ⟨rfl, b10⟩
  have HT10 := hid (HT9.out.below b10)
  have H10 := hid (H9.out.below b10)
  have B10 := hid (B9.out.trans (b10.mono B9.out.size))
  have P3_10 := hid (P3_9.out.below b10)
  have P4_10 := hid (P4_9.out.below b10)
  have P5_10 := hid (P5_9.out.below b10)
  have P6_10 := hid (P6_9.out.below b10)
  have P7_10 := hid (P7_9.out.below b10)
  have P8_10 := hid (P8_9.out.below b10)
  clear b10 HT9 H9 B9 P3_9 P4_9 P5_9 P6_9 P7_9 P8_9
  go_wp2_with fail
  refine (same_any a3 a4 _ c3 c4 (addR l ⟨q1, q2, q3, q4, q5, q6, q7⟩) w10 P3_10.out P4_10.out (by have := LA.out; omega)).mono ?_
  rintro e w11 ⟨rfl, b11⟩
  have HT11 := hid (HT10.out.below b11)
  have H11 := hid (H10.out.below b11)
  have B11 := hid (B10.out.trans (b11.mono B10.out.size))
  have P5_11 := hid (P5_10.out.below b11)
  have P6_11 := hid (P6_10.out.below b11)
  have P7_11 := hid (P7_10.out.below b11)
  have P8_11 := hid (P8_10.out.below b11)
  clear b11 HT10 H10 B10 P5_10 P6_10 P7_10 P8_10 P3_10 P4_10
  go_wp2_with fail
  refine (same_any a5 a6 _ c5 c6 (setR l ⟨q1, q2, q3, q4, q5, q6, q7⟩) w11 P5_11.out P6_11.out (by have := LS.out; omega)).mono ?_
  rintro e w12 ⟨rfl, b12⟩
  have HT12 := hid (HT11.out.below b12)
  have H12 := hid (H11.out.below b12)
  have B12 := hid (B11.out.trans (b12.mono B11.out.size))
  have P7_12 := hid (P7_11.out.below b12)
  have P8_12 := hid (P8_11.out.below b12)
  clear b12 HT11 H11 B11 P7_11 P8_11 P5_11 P6_11
  go_wp2_with fail
  refine (same_any a7 a8 _ c7 c8 (dropR l id) w12 P7_12.out P8_12.out (by have := LD.out; omega)).mono ?_
  rintro e w13 ⟨rfl, b13⟩
  have HT13 := hid (HT12.out.below b13)
  have H13 := hid (H12.out.below b13)
  have B13 := hid (B12.out.trans (b13.mono B12.out.size))
  clear b13 HT12 H12 B12 P7_12 P8_12
  go_wp2_with fail
  refine (kept_any _ g len c a cap l w13 HT13.out H13.out (by omega)).mono ?_
  rintro e w14 ⟨rfl, b14⟩
  have HT14 := hid (HT13.out.below b14)
  have H14 := hid (H13.out.below b14)
  have B14 := hid (B13.out.trans (b14.mono B13.out.size))
  clear b14 HT13 H13 B13
  go_wp2
  go_ret
  exact ⟨rfl, HW0.out.trans (B14.out.mono HW0.out.size)⟩

theorem own : ownKnob Try.prog.godebug = none := by kernel_rfl
theorem laidOut : laidOutB Try.prog = true := by kernel_rfl

set_option maxRecDepth 100000 in
theorem lifted (os : Os) (started : os.Started) (H : Type) (enc : TypeId × Value → H) :
    ReturnsInHanded {} Try.checked os 3 .any (Rows.queueEditsSpec.pre6 enc Try.prog Try.f3 Rows.queueEditsRow.domain false) (Rows.queueEditsSpec.post enc Try.prog Try.f3 false true false false) := by
  refine returnsInHanded_of_change_sized (C := Try.checked) own started (by kernel_rfl) Try.func3
    (ChangeSpec.witness6 (enc := enc) (C := Try.checked) false ⟨#[], #[.slice none 0 0, .agg #[.int .i64 0, .int .i64 0, .int .i64 0, .int .i64 0, .int .i64 0, .int .i64 0, .int .i64 0], .int .i64 0], []⟩ 8 (by kernel_rfl) (by kernel_rfl) (by kernel_rfl) (by kernel_rfl)) ?_
  intro W base args ds gs before hval0 hW hcnd hsz0 _
  have hsz : (DataW.weightsEach Try.prog (Try.f3.params.toList ++ Rows.queueEditsSpec.plain.varTypes Try.prog) (ds ++ gs)).all (· ≤ reachBytes) = true := hsz0
  have hval : ∀ (j : Nat) t v, Try.f3.params[j]? = some t → args[j]? = some v → Value.okWide Try.prog W .any base t v := hval0
  have hW' := hW
  obtain ⟨p, q, hA0, hV, rfl, hfz, hnd⟩ := hW
  have hA : DataW.TrodAll enc Try.prog W 0 (fun _ => true) true Try.f3.params.toList args.toList ds p := hA0
  rw [Try.params3] at hA hval hsz
  obtain ⟨v0, vs0, d0, ds0, p0, q0, hargs, rfl, rfl, h0, r0⟩ := trodAll_cons hA
  obtain ⟨v1, vs1, d1, ds1, p1, q1, rfl, rfl, rfl, h1, r1⟩ := trodAll_cons r0
  obtain ⟨v2, vs2, d2, ds2, p2, q2, rfl, rfl, rfl, h2, r2⟩ := trodAll_cons r1
  obtain ⟨rfl, rfl, rfl⟩ := trodAll_nil r2
  obtain rfl : args = #[v0, v1, v2] := by cases args; simp_all
  obtain ⟨rfl, rfl⟩ := trodVars_none hV
  have lt0 : ∀ x ∈ p0, x.block < W.heap.size := by obtain ⟨m, hm⟩ := h0; exact DataW.trod_lt m _ _ _ hm
  have lt1 : ∀ x ∈ p1, x.block < W.heap.size := by obtain ⟨m, hm⟩ := h1; exact DataW.trod_lt m _ _ _ hm
  have lt2 : ∀ x ∈ p2, x.block < W.heap.size := by obtain ⟨m, hm⟩ := h2; exact DataW.trod_lt m _ _ _ hm
  obtain ⟨a0, len0, cap0, rfl⟩ := okWide_slice Try.underlying22 (hval 0 22 v0 rfl rfl)
  obtain ⟨z0, w0, k0, dr0⟩ := val_rowE (k := 7) (en := Qu.cs) (ok := Qu.ok) Try.underlying22 (by kernel_rfl) Qu.cs_len (by decide) (fun _ _ _ h => trod_queue h) h0
  have s0 : cap0 * 56 ≤ 140737488351232 := sized_cap dr0 hsz (j := 0) rfl rfl Try.underlying22 (by kernel_rfl)
  obtain ⟨a1, rfl, w1⟩ := val_queue (hval 1 26 v1 rfl rfl) h1
  obtain ⟨a2, rfl, w2⟩ := val_i64 Try.underlying3 (hval 2 3 v2 rfl rfl) h2
  clear hA0 hval0
  refine (walk a0 len0 cap0 z0 a1 a2 W w0 k0 s0 w1 w2).mono fun e W' ⟨he, bel⟩ => ?_
  subst he
  exact ⟨_, rfl, _, _, _, [], _, [], hW', trodAll_mk1 (shut_bool Try.underlying4 _), (trodAll_cons_mk (Below.trod laidOut (by kernel_rfl) (of_decide_eq_true (by kernel_rfl)) h0 bel lt0) (trodAll_cons_mk (Below.trod laidOut (by kernel_rfl) (of_decide_eq_true (by kernel_rfl)) h1 bel lt1) (trodAll_cons_mk (Below.trod laidOut (by kernel_rfl) (of_decide_eq_true (by kernel_rfl)) h2 bel lt2) trodAll_mk0))), rfl, bel.frame _, fun h => by cases h⟩

theorem over : Rows.queueEditsRow.holds Try.pinned (OpenSpec.ofChange Rows.queueEditsSpec) :=
  OpenClaim.holds_of_wide 3 Try.f3 rfl rfl rfl rfl rfl rfl rfl ⟨rfl, rfl, rfl, rfl, rfl⟩ rfl rfl rfl rfl rfl (by kernel_rfl) Try.func3 (by kernel_rfl)
    (of_decide_eq_true (by kernel_rfl)) (by unfold Func.isWrapper; first | (rw [if_pos (by decide +kernel)]; kernel_rfl) | (rw [if_neg (by decide +kernel)]; exact ⟨rfl, rfl⟩))
    (fun os started H enc _ => lifted os started H enc)

theorem proved : Rows.QueueEditsSaid := over
#print axioms proved
end Go.Proofs.Ytcfaciicljjpoaa.queueEdits
