/- VictimUses: for every list of leases the law answers true, and it reads as it did. No further conditions. -/
import Derived.Test.YtdbkjcnanffibaaMB
import Derived.Test.YtdbkjcnanffibaaMC
namespace Go.Proofs.Ytdbkjcnanffibaa.victimUses
open Go.ChangeShapes Go.WideShapes Go.ChangeAt Go.RowKit Go.Deep Go.Maps Go.Shelf
set_option linter.unusedVariables false
set_option linter.unusedSimpArgs false

set_option maxRecDepth 100000 in
set_option maxHeartbeats 4000000 in
theorem walk (b : Option Addr) (ln cp : Nat) (ls : List Le) (w : World) (hl : HoldsL w b ln cp ls) (hlk : ∀ x ∈ ls, x.ok) (hlo : ∀ x ∈ ls, x.okB) (s1 : cp * 80 ≤ 140737488351232) (n1 : ∀ q ∈ ls, q.sc * 8 ≤ 140737488351232) :
    Calls Try.prog 3 #[.slice b ln cp] w fun e w' => e = .returned (.bool true) ∧ Below w.heap.size w w' := by
  have hcp := hl.1.2.1
  have US := hid (fun W (hW : Below w.heap.size w W) => uuses_any b ln cp ls W (hl.below hW) hlo (by omega))
  have RU := hid (fun W (hW : Below w.heap.size w W) => ruses_any b ln cp ls W (hl.below hW) hlo (by omega))
  have HLO := hid hlo
  clear hl hlk hlo n1
  generalize hu : useErr ls = UE at *
  have HU := hid hu
  clear hu
  have e1 : (UE == UE) = true := by simp
  go_enter Try.func3, Try.ntmps3
  go_wp2_with fail
  refine (awake8_any _).mono ?_
  rintro e w1 ⟨rfl, b1⟩
  have B1 := hid b1
  clear b1
  go_wp2_with fail
  refine (US.out _ B1.out).mono ?_
  rintro e w2 ⟨v2, rfl, o2, b2⟩
  rw [← HU.out] at o2
  have O2 := o2.isU HLO.out
  obtain ⟨ua_, uc_, rfl⟩ := O2.form
  have H2 := hid (O2.holds Us.cs_len)
  have B2 := hid (B1.out.trans (b2.mono B1.out.size))
  clear o2 O2 b2 US
  go_wp2_with fail
  refine (RU.out _ B2.out).mono ?_
  rintro e w3 ⟨v3, rfl, o3, b3⟩
  obtain ⟨va_, vc_, rfl⟩ := o3.form
  have H3 := o3.holds Us.cs_len
  have B3 := hid (B2.out.trans (b3.mono B2.out.size))
  have SM := hid (usame_any _ _ _ _ _ _ w3 (H2.out.below b3) H3)
  clear o3 b3 RU H2 H3
  go_wp2_with fail
  refine SM.out.mono ?_
  rintro e w4 ⟨rfl, b4⟩
  have B4 := hid (B3.out.trans (b4.mono B3.out.size))
  go_wp2_with fail
  go_ret
  exact ⟨rfl, B4.out⟩

theorem own : ownKnob Try.prog.godebug = none := by kernel_rfl
theorem laidOut : laidOutB Try.prog = true := by kernel_rfl

set_option maxRecDepth 100000 in
theorem lifted (os : Os) (started : os.Started) (H : Type) (enc : TypeId × Value → H) :
    ReturnsInHanded {} Try.checked os 3 .any (Rows.victimUsesSpec.pre6 enc Try.prog Try.f3 Rows.victimUsesRow.domain false) (Rows.victimUsesSpec.post enc Try.prog Try.f3 false true false false) := by
  refine returnsInHanded_of_change_sized (C := Try.checked) own started (by kernel_rfl) Try.func3
    (ChangeSpec.witness6 (enc := enc) (C := Try.checked) false ⟨#[], #[.slice none 0 0], []⟩ 8 (by kernel_rfl) (by kernel_rfl) (by kernel_rfl) (by kernel_rfl)) ?_
  intro W base args ds gs before hval0 hW hcnd hsz0 _
  have hsz : (DataW.weightsEach Try.prog (Try.f3.params.toList ++ Rows.victimUsesSpec.plain.varTypes Try.prog) (ds ++ gs)).all (· ≤ reachBytes) = true := hsz0
  have hval : ∀ (j : Nat) t v, Try.f3.params[j]? = some t → args[j]? = some v → Value.okWide Try.prog W .any base t v := hval0
  have hW' := hW
  obtain ⟨p, q, hA0, hV, rfl, hfz, hnd⟩ := hW
  have hA : DataW.TrodAll enc Try.prog W 0 (fun _ => true) true Try.f3.params.toList args.toList ds p := hA0
  rw [Try.params3] at hA hval hsz
  obtain ⟨v0, vs0, d0, ds0, p0, q0, hargs, rfl, rfl, h0, r0⟩ := trodAll_cons hA
  obtain ⟨rfl, rfl, rfl⟩ := trodAll_nil r0
  obtain rfl : args = #[v0] := by cases args; simp_all
  obtain ⟨rfl, rfl⟩ := trodVars_none hV
  have lt0 : ∀ x ∈ p0, x.block < W.heap.size := by obtain ⟨m, hm⟩ := h0; exact DataW.trod_lt m _ _ _ hm
  obtain ⟨a0, len0, cap0, rfl⟩ := okWide_slice Try.underlying22 (hval 0 22 v0 rfl rfl)
  obtain ⟨z0, w0, k0, dr0, nest0, kb0⟩ := val_rowL Try.underlying22 h0
  have s0 : cap0 * 80 ≤ 140737488351232 := sized_cap dr0 hsz (j := 0) rfl rfl Try.underlying22 (by kernel_rfl)
  have n0 : ∀ q ∈ z0, q.sc * 8 ≤ 140737488351232 := nest0 (by rw [List.all_eq_true]; intro n hn; exact (List.all_eq_true.1 hsz) n (DataW.weights_mem_each (j := 0) rfl rfl n hn))
  clear hA0 hval0
  refine (walk a0 len0 cap0 z0 W w0 k0 kb0 s0 n0).mono fun e W' ⟨he, bel⟩ => ?_
  subst he
  exact ⟨_, rfl, _, _, _, [], _, [], hW', trodAll_mk1 (shut_bool Try.underlying4 _), (trodAll_cons_mk (Below.trod laidOut (by kernel_rfl) (of_decide_eq_true (by kernel_rfl)) h0 bel lt0) trodAll_mk0), rfl, bel.frame _, fun h => by cases h⟩

theorem over : Rows.victimUsesRow.holds Try.pinned (OpenSpec.ofChange Rows.victimUsesSpec) :=
  OpenClaim.holds_of_wide 3 Try.f3 rfl rfl rfl rfl rfl rfl rfl ⟨rfl, rfl, rfl, rfl, rfl⟩ rfl rfl rfl rfl rfl (by kernel_rfl) Try.func3 (by kernel_rfl)
    (of_decide_eq_true (by kernel_rfl)) (by unfold Func.isWrapper; first | (rw [if_pos (by decide +kernel)]; kernel_rfl) | (rw [if_neg (by decide +kernel)]; exact ⟨rfl, rfl⟩))
    (fun os started H enc _ => lifted os started H enc)

theorem proved : Rows.VictimUsesSaid := over

end Go.Proofs.Ytdbkjcnanffibaa.victimUses
