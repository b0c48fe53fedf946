/- VictimChooses: for every list of queues, every list of leases and every amount the law answers true, and its arguments read as they did. No further conditions. -/
import Derived.Test.YtdbkjcnanffibaaGreatMB
import Derived.Test.YtdbkjcnanffibaaGreatMC
import Derived.Test.YtdbkjcnanffibaaGreatQV
namespace Go.Proofs.YtdbkjcnanffibaaGreat.victimChooses
open Go.ChangeShapes Go.WideShapes Go.ChangeAt Go.RowKit Go.Deep Go.Maps Go.Shelf
set_option linter.unusedVariables false
set_option linter.unusedSimpArgs false

set_option maxRecDepth 100000 in
set_option maxHeartbeats 4000000 in
theorem walk (a : Option Addr) (len cap : Nat) (l : List Qu) (b : Option Addr) (ln cp : Nat) (ls : List Le) (p1 p2 : Int) (w : World) (h : HoldsQ w a len cap l) (hok : ∀ q ∈ l, q.ok) (s0 : cap * 56 ≤ 140737488351232) (hl : HoldsL w b ln cp ls) (hlk : ∀ x ∈ ls, x.ok) (hlo : ∀ x ∈ ls, x.okB) (s1 : cp * 80 ≤ 140737488351232) (n1 : ∀ q ∈ ls, q.sc * 8 ≤ 140737488351232) (w20 : I64 p1) (w21 : I64 p2) :
    Calls Tryz.prog 4 #[.slice a len cap, .slice b ln cp, .agg #[.int .i64 p1, .int .i64 p2]] w fun e w' => e = .returned (.bool true) ∧ Below w.heap.size w w' := by
  have hcp := hl.1.2.1
  have B0 := hid ((Below.refl w.heap.size w).alloc (Nat.le_refl _) (.cells #[.int .i64 p1, .int .i64 p2] 33))
  have z0 : (w.alloc (.cells #[.int .i64 p1, .int .i64 p2] 33)).cell? ⟨w.heap.size, 0, none⟩ = some (.int .i64 p1) := by simp [go_sem]
  have z1 : (w.alloc (.cells #[.int .i64 p1, .int .i64 p2] 33)).cell? ⟨w.heap.size, 1, none⟩ = some (.int .i64 p2) := by simp [go_sem]
  have CH := hid (fun W (hW : Below w.heap.size w W) => uchoose_any a len cap l b ln cp ls p1 p2 W (h.below hW) hok (hl.below hW) hlo (by omega) read_last)
  have RC := hid (fun W (hW : Below w.heap.size w W) => rchoose_any a len cap l b ln cp ls p1 p2 W (h.below hW) hok (hl.below hW) hlo (by omega))
  clear h hok hl hlk hlo n1
  generalize chsT l ls p1 p2 = CT at *
  generalize chsE l ls p1 p2 = CE at *
  have e1 : (CT == CT) = true := by simp
  have e2 : (CE == CE) = true := by simp
  go_enter Tryz.func4, Tryz.ntmps4
  go_wp2_with fail
  refine (awake8_any _).mono ?_
  rintro e w1 ⟨rfl, b1⟩
  have B1 := hid (B0.out.trans (b1.mono B0.out.size))
  replace z0 := keepc b1 z0
  replace z1 := keepc b1 z1
  clear b1
  go_wp2_with fail
  with_reducible refine (CH.out _ B1.out).mono ?_
  rintro e w2 ⟨rfl, b2⟩
  have B2 := hid (B1.out.trans (b2.mono B1.out.size))
  replace z0 := keepc b2 z0
  replace z1 := keepc b2 z1
  clear b2 CH
  go_wp2_with fail
  with_reducible refine (RC.out _ B2.out).mono ?_
  rintro e w3 ⟨rfl, b3⟩
  have B3 := hid (B2.out.trans (b3.mono B2.out.size))
  clear b3 RC
  go_wp2_with fail
  go_ret
  exact ⟨rfl, B3.out⟩

theorem own : ownKnob Tryz.prog.godebug = none := by kernel_rfl
theorem laidOut : laidOutB Tryz.prog = true := by kernel_rfl

set_option maxRecDepth 100000 in
theorem lifted (os : Os) (started : os.Started) (H : Type) (enc : TypeId × Value → H) :
    ReturnsInHanded {} Tryz.checked os 4 .any (Rows.victimChoosesSpec.pre6 enc Tryz.prog Tryz.f4 Rows.victimChoosesRow.domain false) (Rows.victimChoosesSpec.post enc Tryz.prog Tryz.f4 false true false false) := by
  refine returnsInHanded_of_change_sized (C := Tryz.checked) own started (by kernel_rfl) Tryz.func4
    (ChangeSpec.witness6 (enc := enc) (C := Tryz.checked) false ⟨#[], #[.slice none 0 0, .slice none 0 0, .agg #[.int .i64 0, .int .i64 0]], []⟩ 8 (by kernel_rfl) (by kernel_rfl) (by kernel_rfl) (by kernel_rfl)) ?_
  intro W base args ds gs before hval0 hW hcnd hsz0 _
  have hsz : (DataW.weightsEach Tryz.prog (Tryz.f4.params.toList ++ Rows.victimChoosesSpec.plain.varTypes Tryz.prog) (ds ++ gs)).all (· ≤ reachBytes) = true := hsz0
  have hval : ∀ (j : Nat) t v, Tryz.f4.params[j]? = some t → args[j]? = some v → Value.okWide Tryz.prog W .any base t v := hval0
  have hW' := hW
  obtain ⟨p, q, hA0, hV, rfl, hfz, hnd⟩ := hW
  have hA : DataW.TrodAll enc Tryz.prog W 0 (fun _ => true) true Tryz.f4.params.toList args.toList ds p := hA0
  rw [Tryz.params4] at hA hval hsz
  obtain ⟨v0, vs0, d0, ds0, p0, q0, hargs, rfl, rfl, h0, r0⟩ := trodAll_cons hA
  obtain ⟨v1, vs1, d1, ds1, p1, q1, rfl, rfl, rfl, h1, r1⟩ := trodAll_cons r0
  obtain ⟨v2, vs2, d2, ds2, p2, q2, rfl, rfl, rfl, h2, r2⟩ := trodAll_cons r1
  obtain ⟨rfl, rfl, rfl⟩ := trodAll_nil r2
  obtain rfl : args = #[v0, v1, v2] := by cases args; simp_all
  obtain ⟨rfl, rfl⟩ := trodVars_none hV
  have lt0 : ∀ x ∈ p0, x.block < W.heap.size := by obtain ⟨m, hm⟩ := h0; exact DataW.trod_lt m _ _ _ hm
  have lt1 : ∀ x ∈ p1, x.block < W.heap.size := by obtain ⟨m, hm⟩ := h1; exact DataW.trod_lt m _ _ _ hm
  have lt2 : ∀ x ∈ p2, x.block < W.heap.size := by obtain ⟨m, hm⟩ := h2; exact DataW.trod_lt m _ _ _ hm
  obtain ⟨a0, len0, cap0, rfl⟩ := okWide_slice Tryz.underlying22 (hval 0 22 v0 rfl rfl)
  obtain ⟨z0, w0, k0, dr0⟩ := val_rowE (k := 7) (en := Qu.cs) (ok := Qu.ok) Tryz.underlying22 (by kernel_rfl) Qu.cs_len (by decide) (fun _ _ _ h => trod_queue h) h0
  have s0 : cap0 * 56 ≤ 140737488351232 := sized_cap dr0 hsz (j := 0) rfl rfl Tryz.underlying22 (by kernel_rfl)
  obtain ⟨a1, len1, cap1, rfl⟩ := okWide_slice Tryz.underlying23 (hval 1 23 v1 rfl rfl)
  obtain ⟨z1, w1, k1, dr1, nest1, kb1⟩ := val_rowL Tryz.underlying23 h1
  have s1 : cap1 * 80 ≤ 140737488351232 := sized_cap dr1 hsz (j := 1) rfl rfl Tryz.underlying23 (by kernel_rfl)
  have n1 : ∀ q ∈ z1, q.sc * 8 ≤ 140737488351232 := nest1 (by rw [List.all_eq_true]; intro n hn; exact (List.all_eq_true.1 hsz) n (DataW.weights_mem_each (j := 1) rfl rfl n hn))
  obtain ⟨a2_0, a2_1, rfl, w2_0, w2_1⟩ := val_vec2 Tryz.underlying33 Tryz.underlying2 Tryz.underlying2 (by kernel_rfl) (by kernel_rfl) (hval 2 33 v2 rfl rfl) h2
  clear hA0 hval0
  refine (walk a0 len0 cap0 z0 a1 len1 cap1 z1 a2_0 a2_1 W w0 k0 s0 w1 k1 kb1 s1 n1 w2_0 w2_1).mono fun e W' ⟨he, bel⟩ => ?_
  subst he
  exact ⟨_, rfl, _, _, _, [], _, [], hW', trodAll_mk1 (shut_bool Tryz.underlying4 _), (trodAll_cons_mk (Below.trod laidOut (by kernel_rfl) (of_decide_eq_true (by kernel_rfl)) h0 bel lt0) (trodAll_cons_mk (Below.trod laidOut (by kernel_rfl) (of_decide_eq_true (by kernel_rfl)) h1 bel lt1) (trodAll_cons_mk (Below.trod laidOut (by kernel_rfl) (of_decide_eq_true (by kernel_rfl)) h2 bel lt2) trodAll_mk0))), rfl, bel.frame _, fun h => by cases h⟩

theorem over : Rows.victimChoosesRow.holds Tryz.pinned (OpenSpec.ofChange Rows.victimChoosesSpec) :=
  OpenClaim.holds_of_wide 4 Tryz.f4 rfl rfl rfl rfl rfl rfl rfl ⟨rfl, rfl, rfl, rfl, rfl⟩ rfl rfl rfl rfl rfl (by kernel_rfl) Tryz.func4 (by kernel_rfl)
    (of_decide_eq_true (by kernel_rfl)) (by unfold Func.isWrapper; first | (rw [if_pos (by decide +kernel)]; kernel_rfl) | (rw [if_neg (by decide +kernel)]; exact ⟨rfl, rfl⟩))
    (fun os started H enc _ => lifted os started H enc)

theorem proved : Rows.VictimChoosesSaid := over

end Go.Proofs.YtdbkjcnanffibaaGreat.victimChooses
