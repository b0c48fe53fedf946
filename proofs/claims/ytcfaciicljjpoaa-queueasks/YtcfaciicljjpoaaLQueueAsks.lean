/- QueueAsks: for every list of queues and every number the law answers true, and its arguments read as they did. No further conditions. -/
import Derived.Test.YtcfaciicljjpoaaQT
import Derived.Test.YtcfaciicljjpoaaQV
import Derived.Test.YtcfaciicljjpoaaQZ
import Derived.Test.YtcfaciicljjpoaaRC
namespace Go.Proofs.Ytcfaciicljjpoaa.queueAsks
open Go.ChangeShapes Go.WideShapes Go.ChangeAt Go.RowKit Go.Deep
set_option linter.unusedVariables false

theorem idsAt_len {l : List Qu} {ps : List (Fin l.length)} : (idsAt l ps).length = ps.length := by unfold idsAt; simp
theorem chk_le {l : List Qu} (h : chkE l = 0) : l.length ≤ 64 := (chkE_ok.1 h).1
theorem there_chk {l : List Qu} {id : Int} (h : thereE l id = 0) : chkE l = 0 := by unfold thereE at h; split at h <;> simp_all
theorem childrenR_len (l : List Qu) (id : Int) : (childrenR l id).length ≤ 64 := by
  unfold childrenR
  split
  · rename_i h
    rw [idsAt_len]
    exact filter_len (chk_le (there_chk h))
  · simp
theorem downR_len (l : List Qu) (id : Int) : (downR l id).length ≤ 64 := by
  unfold downR
  split
  · rename_i h
    rw [idsAt_len]
    exact filter_len (chk_le (there_chk h))
  · simp
theorem leavesR_len (l : List Qu) : (leavesR l).length ≤ 64 := by
  unfold leavesR
  split
  · rename_i h
    rw [idsAt_len]
    exact filter_len (chk_le h)
  · simp
theorem upR_len (l : List Qu) (id : Int) : (upR l id).length ≤ 65 := by
  unfold upR
  split
  · rename_i h
    have h1 := chk_le (there_chk h)
    have := pth_len (l := l) (pl l id)
    have h2 : pl l id ≤ l.length := pl_le l id
    rw [List.length_map]
    omega
  · simp

set_option maxRecDepth 100000 in
set_option maxHeartbeats 8000000 in
theorem walk (a : Option Addr) (len cap : Nat) (l : List Qu) (id : Int) (w : World) (h : HoldsQ w a len cap l) (hok : ∀ q ∈ l, q.ok) (hs : cap * 56 ≤ 140737488351232) (hid' : I64 id) :
    Calls Try.prog 4 #[.slice a len cap, .int .i64 id] w fun e w' => e = .returned (.bool true) ∧ Below w.heap.size w w' := by
  have HH := hid h
  have HO := hid hok
  have HI := hid hid'
  have hcap0 := h.2.1
  have LA := hid (leavesR_len l)
  have LB := hid (childrenR_len l id)
  have LC := hid (upR_len l id)
  have LD := hid (downR_len l id)
  clear h hok hid'
  go_enter Try.func4, Try.ntmps4
  go_wp2_with fail
  refine (awake_any w).mono ?_
  rintro e w1 ⟨rfl, b1⟩
  have H1 := hid (HH.out.below b1)
  go_wp2_with fail
  refine (twin_any a len cap l w1 H1.out hs).mono ?_
  rintro e w2 ⟨g, c, rfl, T2, b2⟩
  have HT2 := hid T2
  have H2 := hid (H1.out.below b2)
  have B2 := b1.trans (b2.mono b1.size)
  clear T2 b1 b2 H1 HH
  go_wp2_with fail
  refine (leaves_any (some ⟨g, 0, none⟩) len c l w2 HT2.out.holds HO.out).mono ?_
  rintro e w3 ⟨v3, rfl, o3, b3⟩
  unfold AnsN at o3
  obtain ⟨a3, c3, rfl⟩ := o3.form
  have P3_3 := hid (o3.holds encN_len)
  have HT3 := hid (HT2.out.below b3)
  have H3 := hid (H2.out.below b3)
  have B3 := B2.trans (b3.mono B2.size)
  clear o3 b3 HT2 H2 B2
  go_wp2_with fail
  refine (rleaves_any a len cap l w3 H3.out).mono ?_
  rintro e w4 ⟨v4, rfl, o4, b4⟩
  unfold AnsN at o4
  obtain ⟨a4, c4, rfl⟩ := o4.form
  have P4_4 := hid (o4.holds encN_len)
  have HT4 := hid (HT3.out.below b4)
  have H4 := hid (H3.out.below b4)
  have B4 := B3.trans (b4.mono B3.size)
  have P3_4 := hid (P3_3.out.below b4)
  clear o4 b4 HT3 H3 B3 P3_3
  go_wp2_with fail
  refine (children_any (some ⟨g, 0, none⟩) len c l id w4 HT4.out.holds HO.out HI.out).mono ?_
  rintro e w5 ⟨v5, rfl, o5, b5⟩
  unfold AnsN at o5
  obtain ⟨a5, c5, rfl⟩ := o5.form
  have P5_5 := hid (o5.holds encN_len)
  have HT5 := hid (HT4.out.below b5)
  have H5 := hid (H4.out.below b5)
  have B5 := B4.trans (b5.mono B4.size)
  have P3_5 := hid (P3_4.out.below b5)
  have P4_5 := hid (P4_4.out.below b5)
  clear o5 b5 HT4 H4 B4 P3_4 P4_4
  go_wp2_with fail
  refine (rChildren_any a len cap l id w5 H5.out).mono ?_
  rintro e w6 ⟨v6, rfl, o6, b6⟩
  unfold AnsN at o6
  obtain ⟨a6, c6, rfl⟩ := o6.form
  have P6_6 := hid (o6.holds encN_len)
  have HT6 := hid (HT5.out.below b6)
  have H6 := hid (H5.out.below b6)
  have B6 := B5.trans (b6.mono B5.size)
  have P3_6 := hid (P3_5.out.below b6)
  have P4_6 := hid (P4_5.out.below b6)
  have P5_6 := hid (P5_5.out.below b6)
  clear o6 b6 HT5 H5 B5 P3_5 P4_5 P5_5
  have t1 : (chkE l != chkE l) = false := by simp
  have t2 : (thereE l id != thereE l id) = false := by simp
  have t3 : (thereE l id == thereE l id) = true := by simp
  go_wp2_with fail
  refine (ints_any a3 a4 _ c3 c4 (leavesR l) w6 P3_6.out P4_6.out (by have := LA.out; omega)).mono ?_
  rintro e w7 ⟨rfl, b7⟩
  have HT7 := hid (HT6.out.below b7)
  have H7 := hid (H6.out.below b7)
  have B7 := B6.trans (b7.mono B6.size)
  have P5_7 := hid (P5_6.out.below b7)
  have P6_7 := hid (P6_6.out.below b7)
  clear b7 HT6 H6 B6 P3_6 P4_6 P5_6 P6_6
  go_wp2_with fail
  refine (ints_any a5 a6 _ c5 c6 (childrenR l id) w7 P5_7.out P6_7.out (by have := LB.out; omega)).mono ?_
  rintro e w8 ⟨rfl, b8⟩
  have HT8 := hid (HT7.out.below b8)
  have H8 := hid (H7.out.below b8)
  have B8 := B7.trans (b8.mono B7.size)
  clear b8 HT7 H7 B7 P5_7 P6_7
  go_wp2_with fail
  refine (up_any (some ⟨g, 0, none⟩) len c l id w8 HT8.out.holds HO.out HI.out).mono ?_
  rintro e w9 ⟨v9, rfl, o9, b9⟩
  unfold AnsN at o9
  obtain ⟨a9, c9, rfl⟩ := o9.form
  have P9_9 := hid (o9.holds encN_len)
  have HT9 := hid (HT8.out.below b9)
  have H9 := hid (H8.out.below b9)
  have B9 := B8.trans (b9.mono B8.size)
  clear o9 b9 HT8 H8 B8
  go_wp2_with fail
  refine (rPath_any a len cap l id w9 H9.out).mono ?_
  rintro e w10 ⟨v10, rfl, o10, b10⟩
  unfold AnsN at o10
  obtain ⟨a10, c10, rfl⟩ := o10.form
  have P10_10 := hid (o10.holds encN_len)
  have HT10 := hid (HT9.out.below b10)
  have H10 := hid (H9.out.below b10)
  have B10 := B9.trans (b10.mono B9.size)
  have P9_10 := hid (P9_9.out.below b10)
  clear o10 b10 HT9 H9 B9 P9_9
  go_wp2_with fail
  refine (down_any (some ⟨g, 0, none⟩) len c l id w10 HT10.out.holds HO.out HI.out).mono ?_
  rintro e w11 ⟨v11, rfl, o11, b11⟩
  unfold AnsN at o11
  obtain ⟨a11, c11, rfl⟩ := o11.form
  have P11_11 := hid (o11.holds encN_len)
  have HT11 := hid (HT10.out.below b11)
  have H11 := hid (H10.out.below b11)
  have B11 := B10.trans (b11.mono B10.size)
  have P9_11 := hid (P9_10.out.below b11)
  have P10_11 := hid (P10_10.out.below b11)
  clear o11 b11 HT10 H10 B10 P9_10 P10_10
  go_wp2_with fail
  refine (rBelow_any a len cap l id w11 H11.out).mono ?_
  rintro e w12 ⟨v12, rfl, o12, b12⟩
  unfold AnsN at o12
  obtain ⟨a12, c12, rfl⟩ := o12.form
  have P12_12 := hid (o12.holds encN_len)
  have HT12 := hid (HT11.out.below b12)
  have H12 := hid (H11.out.below b12)
  have B12 := B11.trans (b12.mono B11.size)
  have P9_12 := hid (P9_11.out.below b12)
  have P10_12 := hid (P10_11.out.below b12)
  have P11_12 := hid (P11_11.out.below b12)
  clear o12 b12 HT11 H11 B11 P9_11 P10_11 P11_11
  go_wp2_with fail
  refine (ints_any a9 a10 _ c9 c10 (upR l id) w12 P9_12.out P10_12.out (by have := LC.out; omega)).mono ?_
  rintro e w13 ⟨rfl, b13⟩
  have HT13 := hid (HT12.out.below b13)
  have H13 := hid (H12.out.below b13)
  have B13 := B12.trans (b13.mono B12.size)
  have P11_13 := hid (P11_12.out.below b13)
  have P12_13 := hid (P12_12.out.below b13)
  clear b13 HT12 H12 B12 P9_12 P10_12 P11_12 P12_12
  go_wp2_with fail
  refine (ints_any a11 a12 _ c11 c12 (downR l id) w13 P11_13.out P12_13.out (by have := LD.out; omega)).mono ?_
  rintro e w14 ⟨rfl, b14⟩
  have HT14 := hid (HT13.out.below b14)
  have H14 := hid (H13.out.below b14)
  have B14 := B13.trans (b14.mono B13.size)
  clear b14 HT13 H13 B13 P11_13 P12_13
  go_wp2_with fail
  refine (kept_any _ g len c a cap l w14 HT14.out H14.out (by omega)).mono ?_
  rintro e w15 ⟨rfl, b15⟩
  have B15 := B14.trans (b15.mono B14.size)
  clear b15
  go_wp2
  go_ret
  exact ⟨rfl, B15⟩

theorem own : ownKnob Try.prog.godebug = none := by kernel_rfl
theorem laidOut : laidOutB Try.prog = true := by kernel_rfl

set_option maxRecDepth 100000 in
theorem lifted (os : Os) (started : os.Started) (H : Type) (enc : TypeId × Value → H) :
    ReturnsInHanded {} Try.checked os 4 .any (Rows.queueAsksSpec.pre6 enc Try.prog Try.f4 Rows.queueAsksRow.domain false) (Rows.queueAsksSpec.post enc Try.prog Try.f4 false true false false) := by
  refine returnsInHanded_of_change_sized (C := Try.checked) own started (by kernel_rfl) Try.func4
    (ChangeSpec.witness6 (enc := enc) (C := Try.checked) false ⟨#[], #[.slice none 0 0, .int .i64 0], []⟩ 8 (by kernel_rfl) (by kernel_rfl) (by kernel_rfl) (by kernel_rfl)) ?_
  intro W base args ds gs before hval0 hW hcnd hsz0 _
  have hsz : (DataW.weightsEach Try.prog (Try.f4.params.toList ++ Rows.queueAsksSpec.plain.varTypes Try.prog) (ds ++ gs)).all (· ≤ reachBytes) = true := hsz0
  have hval : ∀ (j : Nat) t v, Try.f4.params[j]? = some t → args[j]? = some v → Value.okWide Try.prog W .any base t v := hval0
  have hW' := hW
  obtain ⟨p, q, hA0, hV, rfl, hfz, hnd⟩ := hW
  have hA : DataW.TrodAll enc Try.prog W 0 (fun _ => true) true Try.f4.params.toList args.toList ds p := hA0
  rw [Try.params4] at hA hval hsz
  obtain ⟨v0, vs0, d0, ds0, p0, q0, hargs, rfl, rfl, h0, r0⟩ := trodAll_cons hA
  obtain ⟨v1, vs1, d1, ds1, p1, q1, rfl, rfl, rfl, h1, r1⟩ := trodAll_cons r0
  obtain ⟨rfl, rfl, rfl⟩ := trodAll_nil r1
  obtain rfl : args = #[v0, v1] := by cases args; simp_all
  obtain ⟨rfl, rfl⟩ := trodVars_none hV
  have lt0 : ∀ x ∈ p0, x.block < W.heap.size := by obtain ⟨m, hm⟩ := h0; exact DataW.trod_lt m _ _ _ hm
  have lt1 : ∀ x ∈ p1, x.block < W.heap.size := by obtain ⟨m, hm⟩ := h1; exact DataW.trod_lt m _ _ _ hm
  obtain ⟨a0, len0, cap0, rfl⟩ := okWide_slice Try.underlying22 (hval 0 22 v0 rfl rfl)
  obtain ⟨z0, w0, k0, dr0⟩ := val_rowE (k := 7) (en := Qu.cs) (ok := Qu.ok) Try.underlying22 (by kernel_rfl) Qu.cs_len (by decide) (fun _ _ _ h => trod_queue h) h0
  have s0 : cap0 * 56 ≤ 140737488351232 := sized_cap dr0 hsz (j := 0) rfl rfl Try.underlying22 (by kernel_rfl)
  obtain ⟨a1, rfl, w1⟩ := val_i64 Try.underlying3 (hval 1 3 v1 rfl rfl) h1
  clear hA0 hval0
  refine (walk a0 len0 cap0 z0 a1 W w0 k0 s0 w1).mono fun e W' ⟨he, bel⟩ => ?_
  subst he
  exact ⟨_, rfl, _, _, _, [], _, [], hW', trodAll_mk1 (shut_bool Try.underlying4 _), (trodAll_cons_mk (Below.trod laidOut (by kernel_rfl) (of_decide_eq_true (by kernel_rfl)) h0 bel lt0) (trodAll_cons_mk (Below.trod laidOut (by kernel_rfl) (of_decide_eq_true (by kernel_rfl)) h1 bel lt1) trodAll_mk0)), rfl, bel.frame _, fun h => by cases h⟩

theorem over : Rows.queueAsksRow.holds Try.pinned (OpenSpec.ofChange Rows.queueAsksSpec) :=
  OpenClaim.holds_of_wide 4 Try.f4 rfl rfl rfl rfl rfl rfl rfl ⟨rfl, rfl, rfl, rfl, rfl⟩ rfl rfl rfl rfl rfl (by kernel_rfl) Try.func4 (by kernel_rfl)
    (of_decide_eq_true (by kernel_rfl)) (by unfold Func.isWrapper; first | (rw [if_pos (by decide +kernel)]; kernel_rfl) | (rw [if_neg (by decide +kernel)]; exact ⟨rfl, rfl⟩))
    (fun os started H enc _ => lifted os started H enc)

theorem proved : Rows.QueueAsksSaid := over
#print axioms proved
end Go.Proofs.Ytcfaciicljjpoaa.queueAsks
