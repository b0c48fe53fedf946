/- NumSums: for all lists of int64 the law's call returns true: the sum is the document's, and the list stays, its spare room too. No further conditions. -/
import Derived.Test.YtmdhcigkhapolaaNA
import Derived.Test.YtmdhcigkhapolaaOpenS
namespace Go.Proofs.Ytmdhcigkhapolaa.numSums
open Go.ChangeShapes Go.WideShapes Go.ChangeAt Go.RowKit
set_option linter.unusedVariables false

set_option maxRecDepth 100000 in
set_option maxHeartbeats 8000000 in
theorem main (a : Option Addr) (n cap : Nat) (l : List Int) (X F : Int) (w : World) (H : Hid (HoldsJ w a n cap l)) (hn : n ≤ 17592186043904)
    (S1 : Hid (∀ a c w, Holds w a n l → Calls Try.prog 13 #[.slice a n c] w fun e w' => e = .returned (.tuple #[.int .i64 X, .int .i64 F]) ∧ Below w.heap.size w w'))
    (S2 : Hid (∀ a c w, Holds w a n l → Calls Try.prog 14 #[.slice a n c] w fun e w' => e = .returned (.tuple #[.int .i64 X, .int .i64 F]) ∧ Below w.heap.size w w')) :
    Calls Try.prog 3 #[.slice a n cap] w fun e w' => e = .returned (.bool true) ∧ Below w.heap.size w w' := by
  go_enter Try.func3, Try.ntmps3
  go_wp2_with fail
  with_reducible refine (awake_any _).mono ?_
  rintro e w1 ⟨rfl, q1⟩
  have B0 : Below w1.heap.size w1 (w1.alloc (.cells #[] 2)) := (Below.refl _ _).alloc (Nat.le_refl _) _
  have H1 := hid ((H.out.below q1).below B0)
  go_wp2_with (at_builtin; refine cat_ownI _ rfl (.tmp 12) (.tmp 13) rfl w1.heap.size 0 _ [] rfl (own_litI w1) (by simp) a n cap l rfl H1.out (by omega) ?_)
  intro v2 w2 h2 b2
  have b2' := B0.trans b2
  have hs2 := b2'.size
  clear b2
  go_wp2_with (at_builtin; refine push_ownI w2 71 rfl (.tmp 14) (.tmp 15) rfl w1.heap.size n v2 l rfl h2 hs2 rfl ⟨by omega, by omega⟩ (by omega) ?_)
  intro v3 w3 h3 b3
  obtain ⟨g, c, rfl, hr⟩ := h3.rowOf (by omega)
  have b4 := b2'.trans b3
  have q3 := q1.trans (b4.mono q1.size)
  have cm := hr.capm
  have HL := hid H.out.1
  have HI : Hid (HoldsJ w3 (some ⟨g, 0, none⟩) n c l) := by
    have hh := hr.holds
    refine ⟨H.out.1, by omega, by omega, by omega, H.out.2.2.2.2.1, fun e => by simp at e, fun hp => ?_⟩
    obtain ⟨b', o', e, hc⟩ := hh.2.2.2.2.2.2 (by omega)
    cases e
    refine ⟨g, 0, rfl, fun j hj => ?_⟩
    rw [hc j (by omega), List.getElem?_append_left (by rw [H.out.1]; exact hj)]
  have C71 : w3.cell? ⟨g, n, none⟩ = some (.int .i64 71) := by
    obtain ⟨b', o', e, hc⟩ := hr.holds.2.2.2.2.2.2 (by omega)
    cases e
    have := hc n (by omega)
    rw [Nat.zero_add, List.getElem?_append_right (by rw [H.out.1]; exact Nat.le_refl _), H.out.1, Nat.sub_self] at this
    exact this
  clear h2 h3 b2' b3 b4 q1 H1
  have H3 := hid (H.out.below q3)
  go_wp2_with fail
  with_reducible refine (S1.out _ _ _ (HI.out.holds (by omega))).mono ?_
  rintro e w4 ⟨rfl, b4⟩
  have q4 := q3.trans (b4.mono q3.size)
  have C71' := keepc b4 C71
  have HI4 := hid (HI.out.below b4)
  have H4 := hid (H3.out.below b4)
  clear b4 q3 C71 HI H3
  go_wp2_with fail
  with_reducible refine (S2.out _ _ _ (H4.out.holds (by omega))).mono ?_
  rintro e w5 ⟨rfl, b5⟩
  have q5 := q4.trans (b5.mono q4.size)
  have C71 := keepc b5 C71'
  have HI := hid (HI4.out.below b5)
  have H5 := hid (H4.out.below b5)
  clear b5 q4 C71' HI4 H4
  have tn : (0 : Int) ≤ (n : Int) := by omega
  go_wp2_with fail
  go_loop [32] (fun i => ∃ k : Nat, k ≤ n ∧ i = .int .i64 k) (fun i => n - (intOf i).toNat)
  case atStart => exact ⟨0, by omega, rfl⟩
  case round =>
    obtain ⟨k, hk, rfl⟩ := hrel
    by_cases hlt : k < n
    · obtain ⟨b', o', ea, hc⟩ := H5.out.2.2.2.2.2.2 (by omega)
      obtain ⟨b2, o2, eb, hc2⟩ := HI.out.2.2.2.2.2.2 (by omega)
      cases eb
      have cx := hc k hlt
      have cy := hc2 k hlt
      rw [Nat.zero_add] at cy
      have EA := hid ea
      clear hc hc2 ea
      generalize l[k]?.getD 0 = x at *
      rw [EA.out]
      go_wp2
      go_round
      case rel => exact ⟨k + 1, by omega, by go_num⟩
      case measure => simp [intOf]; omega
    · obtain rfl : k = n := by omega
      go_wp2
      go_ret
      exact ⟨rfl, q5⟩

theorem walk (a : Option Addr) (n cap : Nat) (z : List Int) (w : World) (h : IsRow .i64 w a n cap z) (s : cap * 8 ≤ 140737488351232) :
    Calls Try.prog 3 #[.slice a n cap] w fun e w' => e = .returned (.bool true) ∧ Below w.heap.size w w' := by
  have H := holdsJ_row h
  have hn : n ≤ 17592186043904 := by have := H.2.2.1; omega
  exact main a n cap _ _ _ w H hn (fun a c w h => sum_any a n c _ w h) (fun a c w h => rsum_any a n c _ w h)

theorem own : ownKnob Try.prog.godebug = none := by kernel_rfl
theorem laidOut : laidOutB Try.prog = true := by kernel_rfl

set_option maxRecDepth 100000 in
theorem lifted (os : Os) (started : os.Started) (H : Type) (enc : TypeId × Value → H) :
    ReturnsInHanded {} Try.checked os 3 .any (Rows.numSumsSpec.pre6 enc Try.prog Try.f3 Rows.numSumsRow.domain false) (Rows.numSumsSpec.post enc Try.prog Try.f3 false true false false) := by
  refine returnsInHanded_of_change_sized (C := Try.checked) own started (by kernel_rfl) Try.func3
    (ChangeSpec.witness6 (enc := enc) (C := Try.checked) false ⟨#[], #[.slice none 0 0], []⟩ 8 (by kernel_rfl) (by kernel_rfl) (by kernel_rfl) (by kernel_rfl)) ?_
  intro W base args ds gs before hval0 hW hcnd hsz0 _
  have hsz : (DataW.weightsEach Try.prog (Try.f3.params.toList ++ Rows.numSumsSpec.plain.varTypes Try.prog) (ds ++ gs)).all (· ≤ reachBytes) = true := hsz0
  have hval : ∀ (j : Nat) t v, Try.f3.params[j]? = some t → args[j]? = some v → Value.okWide Try.prog W .any base t v := hval0
  have hW' := hW
  obtain ⟨p, q, hA0, hV, rfl, hfz, hnd⟩ := hW
  have hA : DataW.TrodAll enc Try.prog W 0 (fun _ => true) true Try.f3.params.toList args.toList ds p := hA0
  rw [Try.params3] at hA hval hsz
  obtain ⟨v0, vs0, d0, ds0, p0, q0, hargs, rfl, rfl, h0, r0⟩ := trodAll_cons hA
  obtain ⟨rfl, rfl, rfl⟩ := trodAll_nil r0
  obtain rfl : args = #[v0] := by cases args; simp_all
  obtain ⟨rfl, rfl⟩ := trodVars_none hV
  have lt0 : ∀ x ∈ p0, x.block < W.heap.size := by obtain ⟨m, hm⟩ := h0; exact DataW.trod_lt m _ _ _ hm
  obtain ⟨a0, len0, cap0, rfl⟩ := okWide_slice Try.underlying22 (hval 0 22 v0 rfl rfl)
  obtain ⟨z0, w0, dr0⟩ := val_row2 Try.underlying22 Try.underlying2 (by kernel_rfl) h0
  have s0 : cap0 * 8 ≤ 140737488351232 := sized_cap dr0 hsz (j := 0) rfl rfl Try.underlying22 (by kernel_rfl)
  clear hA0 hval0
  refine (walk a0 len0 cap0 z0 W w0 s0).mono fun e W' ⟨he, bel⟩ => ?_
  subst he
  exact ⟨_, rfl, _, _, _, [], _, [], hW', trodAll_mk1 (shut_bool Try.underlying4 _), (trodAll_cons_mk (Below.trod laidOut (by kernel_rfl) (of_decide_eq_true (by kernel_rfl)) h0 bel lt0) trodAll_mk0), rfl, bel.frame _, fun h => by cases h⟩

theorem over : Rows.numSumsRow.holds Try.pinned (OpenSpec.ofChange Rows.numSumsSpec) :=
  OpenClaim.holds_of_wide 3 Try.f3 rfl rfl rfl rfl rfl rfl rfl ⟨rfl, rfl, rfl, rfl, rfl⟩ rfl rfl rfl rfl rfl (by kernel_rfl) Try.func3 (by kernel_rfl)
    (of_decide_eq_true (by kernel_rfl)) (by unfold Func.isWrapper; first | (rw [if_pos (by decide +kernel)]; kernel_rfl) | (rw [if_neg (by decide +kernel)]; exact ⟨rfl, rfl⟩))
    (fun os started H enc _ => lifted os started H enc)

theorem proved : Rows.NumSumsSaid := over
#print axioms proved
end Go.Proofs.Ytmdhcigkhapolaa.numSums
