/- StripNumbers: for all bytes, numbers and texts whose values are at most 1048576 in all the law's call returns true: what Lay, LayInt and LayBytes answer is what the document asks. Conditions: the bound of the second form. -/
import Derived.Test.YtmdhcigkhapolabSP
import Derived.Test.YtmdhcigkhapolabOpenS
namespace Go.Proofs.Ytmdhcigkhapolab.stripNumbers
open Go.ChangeShapes Go.WideShapes Go.ChangeAt Go.RowKit
set_option linter.unusedVariables false

set_option maxRecDepth 100000 in
set_option maxHeartbeats 8000000 in
theorem walk (a : Option Addr) (len cap : Nat) (z : List Int) (x y : Int) (a2 : Option Addr) (m cap2 : Nat) (z2 : List Int) (w : World) (h : IsRow .u8 w a len cap z) (s : cap ≤ 1048576) (hx : U64 x) (hy : I64 y) (h2 : IsRow .u8 w a2 m cap2 z2) (s2 : cap2 ≤ 1048576) :
    Calls Try.prog 3 #[.slice a len cap, .int .u64 x, .int .i64 y, .slice a2 m cap2] w fun e w' => e = .returned (.bool true) ∧ Below w.heap.size w w' := by
  have HB := hid (holdsB_row h)
  have HP := hid (holdsB_row h2)
  have hl : len ≤ 1048576 := by have := HB.out.2.2.1; omega
  have hm : m ≤ 1048576 := by have := HP.out.2.2.1; omega
  obtain ⟨x0, x1⟩ := hx
  have sx := shelf_le x
  have sy := shelf_le (zig y)
  have sm := shelf_le (m : Int)
  clear h h2 s s2
  generalize z.take len = l at *
  generalize z2.take m = p at *
  go_enter Try.func3, Try.ntmps3
  go_wp2_with fail
  with_reducible refine (awake3_any _).mono ?_
  rintro e wd1 ⟨rfl, q1⟩
  have HB' := hid (HB.out.below q1)
  clear HB; have HB := HB'; clear HB'
  have HP' := hid (HP.out.below q1)
  clear HP; have HP := HP'; clear HP'
  go_wp2_with fail
  with_reducible refine (lay_any a len cap l x _ HB.out x0 x1 (by omega)).mono ?_
  rintro e wd2 ⟨g2, rfl, h2, b2⟩
  have q2 := q1.trans (b2.mono q1.size)
  have HB' := hid (HB.out.below b2)
  clear HB; have HB := HB'; clear HB'
  have HP' := hid (HP.out.below b2)
  clear HP; have HP := HP'; clear HP'
  clear q1
  have H1 := hid h2.holds
  clear h2 b2
  go_wp2_with fail
  with_reducible refine (rnum_any x _ x0 x1).mono ?_
  rintro e wd3 ⟨v3, rfl, h3, b3⟩
  obtain ⟨a3, c3, rfl⟩ := h3.form
  have q3 := q2.trans (b3.mono q2.size)
  have HB' := hid (HB.out.below b3)
  clear HB; have HB := HB'; clear HB'
  have HP' := hid (HP.out.below b3)
  clear HP; have HP := HP'; clear HP'
  have H1' := hid (H1.out.below b3)
  clear H1; have H1 := H1'; clear H1'
  clear q2
  have H2 := hid h3.holds
  clear h3 b3
  go_wp2_with fail
  with_reducible refine (after_any a len cap l _ _ _ _ _ HB.out H2.out (by omega)).mono ?_
  rintro e wd4 ⟨v4, rfl, h4, b4⟩
  obtain ⟨a4, c4, rfl⟩ := h4.form
  have q4 := q3.trans (b4.mono q3.size)
  have HB' := hid (HB.out.below b4)
  clear HB; have HB := HB'; clear HB'
  have HP' := hid (HP.out.below b4)
  clear HP; have HP := HP'; clear HP'
  have H1' := hid (H1.out.below b4)
  clear H1; have H1 := H1'; clear H1'
  have H2' := hid (H2.out.below b4)
  clear H2; have H2 := H2'; clear H2'
  clear q3
  have H3 := hid h4.holds
  clear h4 b4
  go_wp2_with fail
  with_reducible refine (bytes_same _ _ _ _ _ _ _ _ H1.out H3.out).mono ?_
  rintro e wd5 ⟨rfl, rfl⟩
  go_wp2_with fail
  with_reducible refine (layint_any a len cap l y _ HB.out hy (by omega)).mono ?_
  rintro e wd6 ⟨g6, rfl, h6, b6⟩
  have q6 := q4.trans (b6.mono q4.size)
  have HB' := hid (HB.out.below b6)
  clear HB; have HB := HB'; clear HB'
  have HP' := hid (HP.out.below b6)
  clear HP; have HP := HP'; clear HP'
  have H1' := hid (H1.out.below b6)
  clear H1; have H1 := H1'; clear H1'
  have H2' := hid (H2.out.below b6)
  clear H2; have H2 := H2'; clear H2'
  have H3' := hid (H3.out.below b6)
  clear H3; have H3 := H3'; clear H3'
  clear q4
  have H4 := hid h6.holds
  clear h6 b6
  go_wp2_with fail
  with_reducible refine (rwhole_any y _ hy).mono ?_
  rintro e wd7 ⟨v7, rfl, h7, b7⟩
  obtain ⟨a7, c7, rfl⟩ := h7.form
  have q7 := q6.trans (b7.mono q6.size)
  have HB' := hid (HB.out.below b7)
  clear HB; have HB := HB'; clear HB'
  have HP' := hid (HP.out.below b7)
  clear HP; have HP := HP'; clear HP'
  have H1' := hid (H1.out.below b7)
  clear H1; have H1 := H1'; clear H1'
  have H2' := hid (H2.out.below b7)
  clear H2; have H2 := H2'; clear H2'
  have H3' := hid (H3.out.below b7)
  clear H3; have H3 := H3'; clear H3'
  have H4' := hid (H4.out.below b7)
  clear H4; have H4 := H4'; clear H4'
  clear q6
  have H5 := hid h7.holds
  clear h7 b7
  go_wp2_with fail
  with_reducible refine (after_any a len cap l _ _ _ _ _ HB.out H5.out (by omega)).mono ?_
  rintro e wd8 ⟨v8, rfl, h8, b8⟩
  obtain ⟨a8, c8, rfl⟩ := h8.form
  have q8 := q7.trans (b8.mono q7.size)
  have HB' := hid (HB.out.below b8)
  clear HB; have HB := HB'; clear HB'
  have HP' := hid (HP.out.below b8)
  clear HP; have HP := HP'; clear HP'
  have H1' := hid (H1.out.below b8)
  clear H1; have H1 := H1'; clear H1'
  have H2' := hid (H2.out.below b8)
  clear H2; have H2 := H2'; clear H2'
  have H3' := hid (H3.out.below b8)
  clear H3; have H3 := H3'; clear H3'
  have H4' := hid (H4.out.below b8)
  clear H4; have H4 := H4'; clear H4'
  have H5' := hid (H5.out.below b8)
  clear H5; have H5 := H5'; clear H5'
  clear q7
  have H6 := hid h8.holds
  clear h8 b8
  go_wp2_with fail
  with_reducible refine (bytes_same _ _ _ _ _ _ _ _ H4.out H6.out).mono ?_
  rintro e wd9 ⟨rfl, rfl⟩
  go_wp2_with fail
  with_reducible refine (laybytes_any a len cap l a2 m cap2 p _ HB.out HP.out (by omega)).mono ?_
  rintro e wd10 ⟨g10, c10, rfl, h10, b10⟩
  have q10 := q8.trans (b10.mono q8.size)
  have HB' := hid (HB.out.below b10)
  clear HB; have HB := HB'; clear HB'
  have HP' := hid (HP.out.below b10)
  clear HP; have HP := HP'; clear HP'
  have H1' := hid (H1.out.below b10)
  clear H1; have H1 := H1'; clear H1'
  have H2' := hid (H2.out.below b10)
  clear H2; have H2 := H2'; clear H2'
  have H3' := hid (H3.out.below b10)
  clear H3; have H3 := H3'; clear H3'
  have H4' := hid (H4.out.below b10)
  clear H4; have H4 := H4'; clear H4'
  have H5' := hid (H5.out.below b10)
  clear H5; have H5 := H5'; clear H5'
  have H6' := hid (H6.out.below b10)
  clear H6; have H6 := H6'; clear H6'
  clear q8
  have H7 := hid h10.holds
  clear h10 b10
  go_wp2_with fail
  with_reducible refine (rtext_any a2 m cap2 p _ HP.out (by omega)).mono ?_
  rintro e wd11 ⟨v11, rfl, h11, b11⟩
  obtain ⟨a11, c11, rfl⟩ := h11.form
  have q11 := q10.trans (b11.mono q10.size)
  have HB' := hid (HB.out.below b11)
  clear HB; have HB := HB'; clear HB'
  have HP' := hid (HP.out.below b11)
  clear HP; have HP := HP'; clear HP'
  have H1' := hid (H1.out.below b11)
  clear H1; have H1 := H1'; clear H1'
  have H2' := hid (H2.out.below b11)
  clear H2; have H2 := H2'; clear H2'
  have H3' := hid (H3.out.below b11)
  clear H3; have H3 := H3'; clear H3'
  have H4' := hid (H4.out.below b11)
  clear H4; have H4 := H4'; clear H4'
  have H5' := hid (H5.out.below b11)
  clear H5; have H5 := H5'; clear H5'
  have H6' := hid (H6.out.below b11)
  clear H6; have H6 := H6'; clear H6'
  have H7' := hid (H7.out.below b11)
  clear H7; have H7 := H7'; clear H7'
  clear q10
  have H8 := hid h11.holds
  clear h11 b11
  go_wp2_with fail
  with_reducible refine (after_any a len cap l _ _ _ _ _ HB.out H8.out (by omega)).mono ?_
  rintro e wd12 ⟨v12, rfl, h12, b12⟩
  obtain ⟨a12, c12, rfl⟩ := h12.form
  have q12 := q11.trans (b12.mono q11.size)
  have HB' := hid (HB.out.below b12)
  clear HB; have HB := HB'; clear HB'
  have HP' := hid (HP.out.below b12)
  clear HP; have HP := HP'; clear HP'
  have H1' := hid (H1.out.below b12)
  clear H1; have H1 := H1'; clear H1'
  have H2' := hid (H2.out.below b12)
  clear H2; have H2 := H2'; clear H2'
  have H3' := hid (H3.out.below b12)
  clear H3; have H3 := H3'; clear H3'
  have H4' := hid (H4.out.below b12)
  clear H4; have H4 := H4'; clear H4'
  have H5' := hid (H5.out.below b12)
  clear H5; have H5 := H5'; clear H5'
  have H6' := hid (H6.out.below b12)
  clear H6; have H6 := H6'; clear H6'
  have H7' := hid (H7.out.below b12)
  clear H7; have H7 := H7'; clear H7'
  have H8' := hid (H8.out.below b12)
  clear H8; have H8 := H8'; clear H8'
  clear q11
  have H9 := hid h12.holds
  clear h12 b12
  go_wp2_with fail
  with_reducible refine (bytes_same _ _ _ _ _ _ _ _ H7.out H9.out).mono ?_
  rintro e wd13 ⟨rfl, rfl⟩
  go_wp2_with fail
  with_reducible refine (size_any' x x0 x1 _).mono ?_
  rintro e wd14 ⟨rfl, rfl⟩
  go_wp2_with fail
  with_reducible refine (rnum_any x _ x0 x1).mono ?_
  rintro e wd15 ⟨v15, rfl, h15, b15⟩
  obtain ⟨a15, c15, rfl⟩ := h15.form
  have q15 := q12.trans (b15.mono q12.size)
  have HB' := hid (HB.out.below b15)
  clear HB; have HB := HB'; clear HB'
  have HP' := hid (HP.out.below b15)
  clear HP; have HP := HP'; clear HP'
  have H1' := hid (H1.out.below b15)
  clear H1; have H1 := H1'; clear H1'
  have H2' := hid (H2.out.below b15)
  clear H2; have H2 := H2'; clear H2'
  have H3' := hid (H3.out.below b15)
  clear H3; have H3 := H3'; clear H3'
  have H4' := hid (H4.out.below b15)
  clear H4; have H4 := H4'; clear H4'
  have H5' := hid (H5.out.below b15)
  clear H5; have H5 := H5'; clear H5'
  have H6' := hid (H6.out.below b15)
  clear H6; have H6 := H6'; clear H6'
  have H7' := hid (H7.out.below b15)
  clear H7; have H7 := H7'; clear H7'
  have H8' := hid (H8.out.below b15)
  clear H8; have H8 := H8'; clear H8'
  have H9' := hid (H9.out.below b15)
  clear H9; have H9 := H9'; clear H9'
  clear q12
  have H10 := hid h15.holds
  clear h15 b15
  go_wp2
  go_ret
  exact ⟨rfl, q15⟩

theorem own : ownKnob Try.prog.godebug = none := by kernel_rfl
theorem laidOut : laidOutB Try.prog = true := by kernel_rfl

set_option maxRecDepth 100000 in
theorem lifted (os : Os) (started : os.Started) (H : Type) (enc : TypeId × Value → H) (F : Stop.Interp) :
    ReturnsInHanded {} Try.checked os 3 .any ((Rows.OpenSpec.upto Rows.stripNumbersSpec).pre6 enc Try.prog Try.f3 Rows.stripNumbersUptoRow.domain false) (((Rows.OpenSpec.upto Rows.stripNumbersSpec).at F).post enc Try.prog Try.f3 false true false false) := by
  refine returnsInHanded_of_cond (C := Try.checked) (s := Rows.OpenSpec.upto Rows.stripNumbersSpec) (k := Rows.uptoSmall) rfl own started (by kernel_rfl) Try.func3
    (OpenSpec.witness (enc := enc) (C := Try.checked) (s := Rows.OpenSpec.upto Rows.stripNumbersSpec) (k := Rows.uptoSmall) rfl false ⟨#[], #[.slice none 0 0, .int .u64 0, .int .i64 0, .slice none 0 0], []⟩ 8 (by kernel_rfl) (by kernel_rfl) (by kernel_rfl)
      (x := ([.nil, .lit (.int .u64 0), .lit (.int .i64 0), .nil], [], [])) (by kernel_rfl) rfl (by kernel_rfl)) ?_
  intro W base args ds gs before hval0 hW hcnd hk _
  show Calls Try.prog 3 args W fun e W' => ∃ v, e = .returned v ∧ Rows.stripNumbersSpec.post enc Try.prog Try.f3 false true false false W args v W'
  have hval : ∀ (j : Nat) t v, Try.f3.params[j]? = some t → args[j]? = some v → Value.okWide Try.prog W .any base t v := hval0
  have hW' := hW
  obtain ⟨p, q, hA0, hV, rfl, hfz, hnd⟩ := hW
  have hA : DataW.TrodAll enc Try.prog W 0 (fun _ => true) true Try.f3.params.toList args.toList ds p := hA0
  rw [Try.params3] at hA hval
  obtain ⟨v0, vs0, d0, ds0, p0, q0, hargs, rfl, rfl, h0, r0⟩ := trodAll_cons hA
  obtain ⟨v1, vs1, d1, ds1, p1, q1, rfl, rfl, rfl, h1, r1⟩ := trodAll_cons r0
  obtain ⟨v2, vs2, d2, ds2, p2, q2, rfl, rfl, rfl, h2, r2⟩ := trodAll_cons r1
  obtain ⟨v3, vs3, d3, ds3, p3, q3, rfl, rfl, rfl, h3, r3⟩ := trodAll_cons r2
  obtain ⟨rfl, rfl, rfl⟩ := trodAll_nil r3
  obtain rfl : args = #[v0, v1, v2, v3] := by cases args; simp_all
  obtain ⟨rfl, rfl⟩ := trodVars_none hV
  have lt0 : ∀ x ∈ p0, x.block < W.heap.size := by obtain ⟨m, hm⟩ := h0; exact DataW.trod_lt m _ _ _ hm
  have lt1 : ∀ x ∈ p1, x.block < W.heap.size := by obtain ⟨m, hm⟩ := h1; exact DataW.trod_lt m _ _ _ hm
  have lt2 : ∀ x ∈ p2, x.block < W.heap.size := by obtain ⟨m, hm⟩ := h2; exact DataW.trod_lt m _ _ _ hm
  have lt3 : ∀ x ∈ p3, x.block < W.heap.size := by obtain ⟨m, hm⟩ := h3; exact DataW.trod_lt m _ _ _ hm
  obtain ⟨a0, len0, cap0, rfl⟩ := okWide_slice Try.underlying22 (hval 0 22 v0 rfl rfl)
  obtain ⟨z0, w0, dr0⟩ := val_row2 Try.underlying22 Try.underlying5 (by kernel_rfl) h0
  have s0 : cap0 ≤ 1048576 := upto_cap dr0 hk (by simp)
  obtain ⟨a1, rfl, w1⟩ := val_u64 Try.underlying23 (hval 1 23 v1 rfl rfl) h1
  obtain ⟨a2, rfl, w2⟩ := val_i64 Try.underlying2 (hval 2 2 v2 rfl rfl) h2
  obtain ⟨a3, len3, cap3, rfl⟩ := okWide_slice Try.underlying22 (hval 3 22 v3 rfl rfl)
  obtain ⟨z3, w3, dr3⟩ := val_row2 Try.underlying22 Try.underlying5 (by kernel_rfl) h3
  have s3 : cap3 ≤ 1048576 := upto_cap dr3 hk (by simp)
  clear hA0 hval0
  refine (walk a0 len0 cap0 z0 a1 a2 a3 len3 cap3 z3 W w0 s0 w1 w2 w3 s3).mono fun e W' ⟨he, bel⟩ => ?_
  subst he
  exact ⟨_, rfl, _, _, _, [], _, [], hW', trodAll_mk1 (shut_bool Try.underlying4 _), (trodAll_cons_mk (Below.trod laidOut (by kernel_rfl) (of_decide_eq_true (by kernel_rfl)) h0 bel lt0) (trodAll_cons_mk (Below.trod laidOut (by kernel_rfl) (of_decide_eq_true (by kernel_rfl)) h1 bel lt1) (trodAll_cons_mk (Below.trod laidOut (by kernel_rfl) (of_decide_eq_true (by kernel_rfl)) h2 bel lt2) (trodAll_cons_mk (Below.trod laidOut (by kernel_rfl) (of_decide_eq_true (by kernel_rfl)) h3 bel lt3) trodAll_mk0)))), rfl, bel.frame _, fun h => by cases h⟩

theorem over : Rows.stripNumbersUptoRow.holds Try.pinned (Rows.OpenSpec.upto Rows.stripNumbersSpec) :=
  OpenClaim.holds_of_cond 3 Try.f3 rfl rfl rfl rfl rfl rfl rfl ⟨rfl, rfl, rfl, rfl, rfl⟩ rfl rfl rfl rfl rfl (by kernel_rfl) Try.func3 (by kernel_rfl)
    (of_decide_eq_true (by kernel_rfl)) (by unfold Func.isWrapper; first | (rw [if_pos (by decide +kernel)]; kernel_rfl) | (rw [if_neg (by decide +kernel)]; exact ⟨rfl, rfl⟩))
    (fun os started H enc _ F => lifted os started H enc F)

theorem proved : Rows.StripNumbersUptoSaid := over
#print axioms proved
end Go.Proofs.Ytmdhcigkhapolab.stripNumbers
