/- StripOrder: for all numbers the law's call returns true: numbers stand in the order of their bytes, and none begins another one. No further conditions. -/
import Derived.Test.YtmdhcigkhapolabSR
import Derived.Test.YtmdhcigkhapolabOpenS
namespace Go.Proofs.Ytmdhcigkhapolab.stripOrder
open Go.ChangeShapes Go.WideShapes Go.ChangeAt Go.RowKit
set_option linter.unusedVariables false

theorem holds_none (w : World) : HoldsB w none 0 0 [] := ⟨rfl, by omega, by omega, by omega, BB.nil, fun _ => ⟨rfl, rfl⟩, fun h => absurd h (by omega)⟩

theorem lay_nil (x : Int) (w : World) (x0 : 0 ≤ x) (x1 : x ≤ 18446744073709551615) :
    Calls Try.prog 13 #[.slice none 0 0, .int .u64 x] w fun e w' => ∃ g, e = .returned (.slice (some ⟨g, 0, none⟩) (1 + shelf x) (1 + shelf x)) ∧ Row w.heap.size w' g (1 + shelf x) (1 + shelf x) (numB x) ∧ Below w.heap.size w w' := by
  simpa using lay_any none 0 0 [] x w (holds_none w) x0 x1 (by omega)

set_option maxRecDepth 100000 in
set_option maxHeartbeats 8000000 in
theorem main (x y : Int) (w : World) (x0 : 0 ≤ x) (x1 : x ≤ 18446744073709551615) (y0 : 0 ≤ y) (y1 : y ≤ 18446744073709551615) (b1 b2 b3 : Bool) (t1 : decide (x < y) = b1) (t2 : decide (y < x) = b2) (t3 : (x == y) = b3) (T1 : Hid (decide (x < y) = b1)) (T2 : Hid (decide (y < x) = b2)) (T3 : Hid (decide (numB x = numB y) = b3)) :
    Calls Try.prog 7 #[.int .u64 x, .int .u64 y] w fun e w' => e = .returned (.bool true) ∧ Below w.heap.size w w' := by
  have hsx := shelf_le x
  have hsy := shelf_le y
  cases b1 <;> cases b2 <;> cases b3
  all_goals
    go_enter Try.func7, Try.ntmps7
    go_wp2_with fail
    with_reducible refine (awake3_any _).mono ?_
    rintro e wd1 ⟨rfl, q1⟩
    go_wp2_with fail
    with_reducible refine (lay_nil x _ x0 x1).mono ?_
    rintro e wd2 ⟨g2, rfl, h2, b2⟩
    have q2 := q1.trans (b2.mono q1.size)
    clear q1
    have H1 := hid h2.holds
    clear h2 b2
    go_wp2_with fail
    with_reducible refine (lay_nil y _ y0 y1).mono ?_
    rintro e wd3 ⟨g3, rfl, h3, b3⟩
    have q3 := q2.trans (b3.mono q2.size)
    have H1' := hid (H1.out.below b3)
    clear H1; have H1 := H1'; clear H1'
    clear q2
    have H2 := hid h3.holds
    clear h3 b3
    go_wp2_with fail
    with_reducible refine (ahead_num _ _ _ _ _ _ x y _ _ T1.out x0 x1 y0 y1 H1.out H2.out).mono ?_
    rintro e wd4 ⟨rfl, b4⟩
    have q4 := q3.trans (b4.mono q3.size)
    have H1' := hid (H1.out.below b4)
    clear H1; have H1 := H1'; clear H1'
    have H2' := hid (H2.out.below b4)
    clear H2; have H2 := H2'; clear H2'
    clear q3
    clear b4
    go_wp2_with fail
    with_reducible refine (ahead_num _ _ _ _ _ _ y x _ _ T2.out y0 y1 x0 x1 H2.out H1.out).mono ?_
    rintro e wd5 ⟨rfl, b5⟩
    have q5 := q4.trans (b5.mono q4.size)
    have H1' := hid (H1.out.below b5)
    clear H1; have H1 := H1'; clear H1'
    have H2' := hid (H2.out.below b5)
    clear H2; have H2 := H2'; clear H2'
    clear q4
    clear b5
    go_wp2_with fail
    with_reducible refine (bytes_v _ _ _ _ _ _ _ _ _ T3.out _ H1.out H2.out).mono ?_
    rintro e wd6 ⟨rfl, rfl⟩
    go_wp2
    go_ret
    exact ⟨rfl, q5⟩

theorem walk (x y : Int) (w : World) (hx : U64 x) (hy : U64 y) :
    Calls Try.prog 7 #[.int .u64 x, .int .u64 y] w fun e w' => e = .returned (.bool true) ∧ Below w.heap.size w w' :=
  main x y w hx.1 hx.2 hy.1 hy.2 _ _ _ rfl rfl rfl rfl rfl (by
    show decide (numB x = numB y) = (x == y)
    rw [numB_inj hx.1 hx.2 hy.1 hy.2]
    rfl)

theorem own : ownKnob Try.prog.godebug = none := by kernel_rfl
theorem laidOut : laidOutB Try.prog = true := by kernel_rfl

set_option maxRecDepth 100000 in
theorem lifted (os : Os) (started : os.Started) (H : Type) (enc : TypeId × Value → H) :
    ReturnsInHanded {} Try.checked os 7 .any (Rows.stripOrderSpec.pre6 enc Try.prog Try.f7 Rows.stripOrderRow.domain false) (Rows.stripOrderSpec.post enc Try.prog Try.f7 false true false false) := by
  refine returnsInHanded_of_change (C := Try.checked) own started (by kernel_rfl) Try.func7
    (ChangeSpec.witness6 (enc := enc) (C := Try.checked) false ⟨#[], #[.int .u64 0, .int .u64 0], []⟩ 8 (by kernel_rfl) (by kernel_rfl) (by kernel_rfl) (by kernel_rfl)) ?_
  intro W base args ds gs before hval0 hW hcnd _
  have hval : ∀ (j : Nat) t v, Try.f7.params[j]? = some t → args[j]? = some v → Value.okWide Try.prog W .any base t v := hval0
  have hW' := hW
  obtain ⟨p, q, hA0, hV, rfl, hfz, hnd⟩ := hW
  have hA : DataW.TrodAll enc Try.prog W 0 (fun _ => true) true Try.f7.params.toList args.toList ds p := hA0
  rw [Try.params7] at hA hval
  obtain ⟨v0, vs0, d0, ds0, p0, q0, hargs, rfl, rfl, h0, r0⟩ := trodAll_cons hA
  obtain ⟨v1, vs1, d1, ds1, p1, q1, rfl, rfl, rfl, h1, r1⟩ := trodAll_cons r0
  obtain ⟨rfl, rfl, rfl⟩ := trodAll_nil r1
  obtain rfl : args = #[v0, v1] := by cases args; simp_all
  obtain ⟨rfl, rfl⟩ := trodVars_none hV
  have lt0 : ∀ x ∈ p0, x.block < W.heap.size := by obtain ⟨m, hm⟩ := h0; exact DataW.trod_lt m _ _ _ hm
  have lt1 : ∀ x ∈ p1, x.block < W.heap.size := by obtain ⟨m, hm⟩ := h1; exact DataW.trod_lt m _ _ _ hm
  obtain ⟨a0, rfl, w0⟩ := val_u64 Try.underlying23 (hval 0 23 v0 rfl rfl) h0
  obtain ⟨a1, rfl, w1⟩ := val_u64 Try.underlying23 (hval 1 23 v1 rfl rfl) h1
  clear hA0 hval0
  refine (walk a0 a1 W w0 w1).mono fun e W' ⟨he, bel⟩ => ?_
  subst he
  exact ⟨_, rfl, _, _, _, [], _, [], hW', trodAll_mk1 (shut_bool Try.underlying4 _), (trodAll_cons_mk (Below.trod laidOut (by kernel_rfl) (of_decide_eq_true (by kernel_rfl)) h0 bel lt0) (trodAll_cons_mk (Below.trod laidOut (by kernel_rfl) (of_decide_eq_true (by kernel_rfl)) h1 bel lt1) trodAll_mk0)), rfl, bel.frame _, fun h => by cases h⟩

theorem over : Rows.stripOrderRow.holds Try.pinned (OpenSpec.ofChange Rows.stripOrderSpec) :=
  OpenClaim.holds_of_wide 7 Try.f7 rfl rfl rfl rfl rfl rfl rfl ⟨rfl, rfl, rfl, rfl, rfl⟩ rfl rfl rfl rfl rfl (by kernel_rfl) Try.func7 (by kernel_rfl)
    (of_decide_eq_true (by kernel_rfl)) (by unfold Func.isWrapper; first | (rw [if_pos (by decide +kernel)]; kernel_rfl) | (rw [if_neg (by decide +kernel)]; exact ⟨rfl, rfl⟩))
    (fun os started H enc _ => lifted os started H enc)

theorem proved : Rows.StripOrderSaid := over
#print axioms proved
end Go.Proofs.Ytmdhcigkhapolab.stripOrder
