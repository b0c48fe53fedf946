/- StripGuards: for all bytes the law's call returns true: bytes are guarded as the document asks, and any bytes, at most 3000, mended so. No further conditions. -/
import Derived.Test.YtmdhcigkhapolabST
import Derived.Test.YtmdhcigkhapolabOpenS
namespace Go.Proofs.Ytmdhcigkhapolab.stripGuards
open Go.ChangeShapes Go.WideShapes Go.ChangeAt Go.RowKit
set_option linter.unusedVariables false

set_option maxRecDepth 100000 in
set_option maxHeartbeats 8000000 in
theorem main (a : Option Addr) (m cap : Nat) (p : List Int) (a2 : Option Addr) (n cap2 : Nat) (l : List Int) (E : Int) (G : List Int) (w : World) (HP : Hid (HoldsB w a m cap p)) (HB : Hid (HoldsB w a2 n cap2 l)) (hn : n ≤ 9223372036854775807)
    (GU : Hid (∀ w, HoldsB w a m cap p → Calls Try.prog 27 #[.slice a m cap] w fun e w' => ∃ v, e = .returned (.tuple #[v, .int .i64 E]) ∧ Own w.heap.size w' v G.length G ∧ Below w.heap.size w w'))
    (GR : Hid (∀ w, HoldsB w a m cap p → Calls Try.prog 28 #[.slice a m cap] w fun e w' => ∃ v, e = .returned (.tuple #[v, .int .i64 E]) ∧ Own w.heap.size w' v G.length G ∧ Below w.heap.size w w')) :
    Calls Try.prog 5 #[.slice a m cap, .slice a2 n cap2] w fun e w' => e = .returned (.bool true) ∧ Below w.heap.size w w' := by
  by_cases hl : 3000 < n
  · have t1 : decide (3000 < n) = true := by simp; omega
    have t2 : decide ((3000 : Int) < n) = true := by simp; omega
    go_enter Try.func5, Try.ntmps5
    go_wp2_with fail
    with_reducible refine (awake3_any _).mono ?_
    rintro e wd1 ⟨rfl, q1⟩
    have HP' := hid (HP.out.below q1)
    clear HP; have HP := HP'; clear HP'
    have HB' := hid (HB.out.below q1)
    clear HB; have HB := HB'; clear HB'
    go_wp2_with fail
    with_reducible refine (GU.out _ HP.out).mono ?_
    rintro e wd2 ⟨v2, rfl, h2, b2⟩
    obtain ⟨a2, c2, rfl⟩ := h2.form
    have q2 := q1.trans (b2.mono q1.size)
    have HP' := hid (HP.out.below b2)
    clear HP; have HP := HP'; clear HP'
    have HB' := hid (HB.out.below b2)
    clear HB; have HB := HB'; clear HB'
    clear q1
    have H1 := hid h2.holds
    clear h2 b2
    go_wp2_with fail
    with_reducible refine (GR.out _ HP.out).mono ?_
    rintro e wd3 ⟨v3, rfl, h3, b3⟩
    obtain ⟨a3, c3, rfl⟩ := h3.form
    have q3 := q2.trans (b3.mono q2.size)
    have HP' := hid (HP.out.below b3)
    clear HP; have HP := HP'; clear HP'
    have HB' := hid (HB.out.below b3)
    clear HB; have HB := HB'; clear HB'
    have H1' := hid (H1.out.below b3)
    clear H1; have H1 := H1'; clear H1'
    clear q2
    have H2 := hid h3.holds
    clear h3 b3
    go_wp2_with fail
    with_reducible refine (bytes_same _ _ _ _ _ _ _ _ H1.out H2.out).mono ?_
    rintro e wd4 ⟨rfl, rfl⟩
    go_wp2
    go_ret
    exact ⟨rfl, q3⟩
  · have t1 : decide (3000 < n) = false := by simp; omega
    have t2 : decide ((3000 : Int) < n) = false := by simp; omega
    go_enter Try.func5, Try.ntmps5
    go_wp2_with fail
    with_reducible refine (awake3_any _).mono ?_
    rintro e wd1 ⟨rfl, q1⟩
    have HP' := hid (HP.out.below q1)
    clear HP; have HP := HP'; clear HP'
    have HB' := hid (HB.out.below q1)
    clear HB; have HB := HB'; clear HB'
    go_wp2_with fail
    with_reducible refine (GU.out _ HP.out).mono ?_
    rintro e wd2 ⟨v2, rfl, h2, b2⟩
    obtain ⟨a2, c2, rfl⟩ := h2.form
    have q2 := q1.trans (b2.mono q1.size)
    have HP' := hid (HP.out.below b2)
    clear HP; have HP := HP'; clear HP'
    have HB' := hid (HB.out.below b2)
    clear HB; have HB := HB'; clear HB'
    clear q1
    have H1 := hid h2.holds
    clear h2 b2
    go_wp2_with fail
    with_reducible refine (GR.out _ HP.out).mono ?_
    rintro e wd3 ⟨v3, rfl, h3, b3⟩
    obtain ⟨a3, c3, rfl⟩ := h3.form
    have q3 := q2.trans (b3.mono q2.size)
    have HP' := hid (HP.out.below b3)
    clear HP; have HP := HP'; clear HP'
    have HB' := hid (HB.out.below b3)
    clear HB; have HB := HB'; clear HB'
    have H1' := hid (H1.out.below b3)
    clear H1; have H1 := H1'; clear H1'
    clear q2
    have H2 := hid h3.holds
    clear h3 b3
    go_wp2_with fail
    with_reducible refine (bytes_same _ _ _ _ _ _ _ _ H1.out H2.out).mono ?_
    rintro e wd4 ⟨rfl, rfl⟩
    go_wp2_with fail
    with_reducible refine (mend_any _ _ _ _ _ HB.out).mono ?_
    rintro e wd5 ⟨v5, rfl, h5, b5⟩
    obtain ⟨a5, c5, rfl⟩ := h5.form
    have q5 := q3.trans (b5.mono q3.size)
    have HP' := hid (HP.out.below b5)
    clear HP; have HP := HP'; clear HP'
    have HB' := hid (HB.out.below b5)
    clear HB; have HB := HB'; clear HB'
    have H1' := hid (H1.out.below b5)
    clear H1; have H1 := H1'; clear H1'
    have H2' := hid (H2.out.below b5)
    clear H2; have H2 := H2'; clear H2'
    clear q3
    have H3 := hid h5.holds
    clear h5 b5
    go_wp2_with fail
    with_reducible refine (rmend_any _ _ _ _ _ HB.out).mono ?_
    rintro e wd6 ⟨v6, rfl, h6, b6⟩
    obtain ⟨a6, c6, rfl⟩ := h6.form
    have q6 := q5.trans (b6.mono q5.size)
    have HP' := hid (HP.out.below b6)
    clear HP; have HP := HP'; clear HP'
    have HB' := hid (HB.out.below b6)
    clear HB; have HB := HB'; clear HB'
    have H1' := hid (H1.out.below b6)
    clear H1; have H1 := H1'; clear H1'
    have H2' := hid (H2.out.below b6)
    clear H2; have H2 := H2'; clear H2'
    have H3' := hid (H3.out.below b6)
    clear H3; have H3 := H3'; clear H3'
    clear q5
    have H4 := hid h6.holds
    clear h6 b6
    go_wp2_with fail
    with_reducible refine (bytes_same _ _ _ _ _ _ _ _ H3.out H4.out).mono ?_
    rintro e wd7 ⟨rfl, rfl⟩
    go_wp2
    go_ret
    exact ⟨rfl, q6⟩

theorem walk (a : Option Addr) (m cap : Nat) (z : List Int) (a2 : Option Addr) (n cap2 : Nat) (z2 : List Int) (w : World) (h : IsRow .u8 w a m cap z) (h2 : IsRow .u8 w a2 n cap2 z2) :
    Calls Try.prog 5 #[.slice a m cap, .slice a2 n cap2] w fun e w' => e = .returned (.bool true) ∧ Below w.heap.size w w' :=
  main a m cap _ a2 n cap2 _ _ _ w (holdsB_row h) (holdsB_row h2) (holdsB_row h2).2.1 (fun w h => guard_any a m cap _ w h) (fun w h => rguarded_any a m cap _ w h)

theorem own : ownKnob Try.prog.godebug = none := by kernel_rfl
theorem laidOut : laidOutB Try.prog = true := by kernel_rfl

set_option maxRecDepth 100000 in
theorem lifted (os : Os) (started : os.Started) (H : Type) (enc : TypeId × Value → H) :
    ReturnsInHanded {} Try.checked os 5 .any (Rows.stripGuardsSpec.pre6 enc Try.prog Try.f5 Rows.stripGuardsRow.domain false) (Rows.stripGuardsSpec.post enc Try.prog Try.f5 false true false false) := by
  refine returnsInHanded_of_change (C := Try.checked) own started (by kernel_rfl) Try.func5
    (ChangeSpec.witness6 (enc := enc) (C := Try.checked) false ⟨#[], #[.slice none 0 0, .slice none 0 0], []⟩ 8 (by kernel_rfl) (by kernel_rfl) (by kernel_rfl) (by kernel_rfl)) ?_
  intro W base args ds gs before hval0 hW hcnd _
  have hval : ∀ (j : Nat) t v, Try.f5.params[j]? = some t → args[j]? = some v → Value.okWide Try.prog W .any base t v := hval0
  have hW' := hW
  obtain ⟨p, q, hA0, hV, rfl, hfz, hnd⟩ := hW
  have hA : DataW.TrodAll enc Try.prog W 0 (fun _ => true) true Try.f5.params.toList args.toList ds p := hA0
  rw [Try.params5] at hA hval
  obtain ⟨v0, vs0, d0, ds0, p0, q0, hargs, rfl, rfl, h0, r0⟩ := trodAll_cons hA
  obtain ⟨v1, vs1, d1, ds1, p1, q1, rfl, rfl, rfl, h1, r1⟩ := trodAll_cons r0
  obtain ⟨rfl, rfl, rfl⟩ := trodAll_nil r1
  obtain rfl : args = #[v0, v1] := by cases args; simp_all
  obtain ⟨rfl, rfl⟩ := trodVars_none hV
  have lt0 : ∀ x ∈ p0, x.block < W.heap.size := by obtain ⟨m, hm⟩ := h0; exact DataW.trod_lt m _ _ _ hm
  have lt1 : ∀ x ∈ p1, x.block < W.heap.size := by obtain ⟨m, hm⟩ := h1; exact DataW.trod_lt m _ _ _ hm
  obtain ⟨a0, len0, cap0, rfl⟩ := okWide_slice Try.underlying22 (hval 0 22 v0 rfl rfl)
  obtain ⟨z0, w0⟩ := val_row Try.underlying22 Try.underlying5 (by kernel_rfl) h0
  obtain ⟨a1, len1, cap1, rfl⟩ := okWide_slice Try.underlying22 (hval 1 22 v1 rfl rfl)
  obtain ⟨z1, w1⟩ := val_row Try.underlying22 Try.underlying5 (by kernel_rfl) h1
  clear hA0 hval0
  refine (walk a0 len0 cap0 z0 a1 len1 cap1 z1 W w0 w1).mono fun e W' ⟨he, bel⟩ => ?_
  subst he
  exact ⟨_, rfl, _, _, _, [], _, [], hW', trodAll_mk1 (shut_bool Try.underlying4 _), (trodAll_cons_mk (Below.trod laidOut (by kernel_rfl) (of_decide_eq_true (by kernel_rfl)) h0 bel lt0) (trodAll_cons_mk (Below.trod laidOut (by kernel_rfl) (of_decide_eq_true (by kernel_rfl)) h1 bel lt1) trodAll_mk0)), rfl, bel.frame _, fun h => by cases h⟩

theorem over : Rows.stripGuardsRow.holds Try.pinned (OpenSpec.ofChange Rows.stripGuardsSpec) :=
  OpenClaim.holds_of_wide 5 Try.f5 rfl rfl rfl rfl rfl rfl rfl ⟨rfl, rfl, rfl, rfl, rfl⟩ rfl rfl rfl rfl rfl (by kernel_rfl) Try.func5 (by kernel_rfl)
    (of_decide_eq_true (by kernel_rfl)) (by unfold Func.isWrapper; first | (rw [if_pos (by decide +kernel)]; kernel_rfl) | (rw [if_neg (by decide +kernel)]; exact ⟨rfl, rfl⟩))
    (fun os started H enc _ => lifted os started H enc)

theorem proved : Rows.StripGuardsSaid := over
#print axioms proved
end Go.Proofs.Ytmdhcigkhapolab.stripGuards
