/- VictimStops: for every list of queues, every list of leases and every amount the law answers true, and its arguments read as they did. No further conditions. -/
import Derived.Test.YtdbkjcnanffibaaMB
import Derived.Test.YtdbkjcnanffibaaMC
import Derived.Test.YtdbkjcnanffibaaQV
namespace Go.Proofs.Ytdbkjcnanffibaa.victimStops
open Go.ChangeShapes Go.WideShapes Go.ChangeAt Go.RowKit Go.Deep Go.Maps Go.Shelf
set_option linter.unusedVariables false
set_option linter.unusedSimpArgs false

set_option maxRecDepth 100000 in
set_option maxHeartbeats 4000000 in
theorem walk (a : Option Addr) (len cap : Nat) (l : List Qu) (b : Option Addr) (ln cp : Nat) (ls : List Le) (p1 p2 : Int) (w : World) (h : HoldsQ w a len cap l) (hok : ∀ q ∈ l, q.ok) (s0 : cap * 56 ≤ 140737488351232) (hl : HoldsL w b ln cp ls) (hlk : ∀ x ∈ ls, x.ok) (hlo : ∀ x ∈ ls, x.okB) (s1 : cp * 80 ≤ 140737488351232) (n1 : ∀ q ∈ ls, q.sc * 8 ≤ 140737488351232) (w20 : I64 p1) (w21 : I64 p2) :
    Calls Try.prog 6 #[.slice a len cap, .slice b ln cp, .agg #[.int .i64 p1, .int .i64 p2]] w fun e w' => e = .returned (.bool true) ∧ Below w.heap.size w w' := by
  have hcp := hl.1.2.1
  have B0 := hid ((Below.refl w.heap.size w).alloc (Nat.le_refl _) (.cells #[.int .i64 p1, .int .i64 p2] 32))
  have z0 : (w.alloc (.cells #[.int .i64 p1, .int .i64 p2] 32)).cell? ⟨w.heap.size, 0, none⟩ = some (.int .i64 p1) := by simp [go_sem]
  have z1 : (w.alloc (.cells #[.int .i64 p1, .int .i64 p2] 32)).cell? ⟨w.heap.size, 1, none⟩ = some (.int .i64 p2) := by simp [go_sem]
  have US := hid (fun W (hW : Below w.heap.size w W) => uuses_any b ln cp ls W (hl.below hW) hlo (by omega))
  have VI := hid (fun W (hW : Below w.heap.size w W) => victims_any a len cap l b ln cp ls p1 p2 W (h.below hW) hok (hl.below hW) hlo (by omega))
  have LI := hid (fun W (hW : Below w.heap.size w W) => live_any b ln cp ls W (hl.below hW) (by omega))
  have CH := hid (fun W (hW : Below w.heap.size w W) => uchoose_any a len cap l b ln cp ls p1 p2 W (h.below hW) hok (hl.below hW) hlo (by omega) read_last)
  have HLM := hid (fun W v (hW : Below w.heap.size w W) (hv : OwnE 38 8 Le.cs w.heap.size W v (lastL ls).length (lastL ls)) => (show ∃ aa cc, v = .slice aa (lastL ls).length cc ∧ HoldsL W aa (lastL ls).length cc (lastL ls) from by
    obtain ⟨aa, cc, rfl⟩ := hv.form
    exact ⟨aa, cc, rfl, hv.holds Le.cs_len, fun x hx => (hl.2 x (lastL_mem hx)).below hW⟩))
  have hlen : (lastL ls).length ≤ ln := by rw [← hl.1.1]; exact (lastL_sub ls).length_le
  have C2 := hid (fun W aa cc (hW : Below w.heap.size w W) (hm : HoldsL W aa (lastL ls).length cc (lastL ls)) => uchoose_any a len cap l aa (lastL ls).length cc (lastL ls) p1 p2 W (h.below hW) hok hm (fun x hx => hlo x (lastL_mem hx)) (by omega) read_last)
  have HLO := hid hlo
  have VR := hid (fun (h : vicB l ls p1 p2 = true) => stops_eq (p := p1) (q := p2) hlo (vic_read h).1)
  clear h hok hl hlk hlo n1
  go_enter Try.func6, Try.ntmps6
  go_wp2_with fail
  refine (awake8_any _).mono ?_
  rintro e w1 ⟨rfl, b1⟩
  have B1 := hid (B0.out.trans (b1.mono B0.out.size))
  replace z0 := keepc b1 z0
  replace z1 := keepc b1 z1
  clear b1
  go_wp2_with fail
  refine (US.out _ B1.out).mono ?_
  rintro e w2 ⟨v2, rfl, o2, b2⟩
  have B2 := hid (B1.out.trans (b2.mono B1.out.size))
  replace z0 := keepc b2 z0
  replace z1 := keepc b2 z1
  clear o2 b2 US
  by_cases e1 : useErr ls = 0
  case neg =>
    have t : (useErr ls != 0) = true := by simpa using e1
    clear VR e1 CH C2 VI
    generalize useErr ls = UE at *
    go_wp2_with fail
    go_ret
    exact ⟨rfl, B2.out⟩
  rw [e1]
  go_wp2_with fail
  refine (VI.out _ B2.out).mono ?_
  rintro e w3 ⟨rfl, b3⟩
  have B3 := hid (B2.out.trans (b3.mono B2.out.size))
  replace z0 := keepc b3 z0
  replace z1 := keepc b3 z1
  clear b3 VI
  cases hv : vicB l ls p1 p2
  · clear VR CH C2 hv e1
    go_wp2_with fail
    go_ret
    exact ⟨rfl, B3.out⟩
  · obtain ⟨q1, q2⟩ := VR.out hv
    rw [q1, q2] at C2
    clear VR hv e1 q1 q2
    generalize chsT l ls p1 p2 = CT at *
    generalize chsE l ls p1 p2 = CE at *
    have e1 : (CT == CT) = true := by simp
    have e2 : (CE == CE) = true := by simp
    go_wp2_with fail
    refine (CH.out _ B3.out).mono ?_
    rintro e w4 ⟨rfl, b4⟩
    have B4 := hid (B3.out.trans (b4.mono B3.out.size))
    replace z0 := keepc b4 z0
    replace z1 := keepc b4 z1
    clear b4 CH
    go_wp2_with fail
    have BX := hid (Below.drew (Below.refl w4.heap.size w4))
    have TW := hid (fun W (hW : Below w4.heap.size w4 W) => B4.out.trans (hW.mono B4.out.size))
    have rg_z0 := drewc z0
    have rg_z1 := drewc z1
    refine wp_region_held_drew (S := (fun w' => w'.cell? ⟨w.heap.size, 0, none⟩ = some (.int .i64 p1) ∧ w'.cell? ⟨w.heap.size, 1, none⟩ = some (.int .i64 p2))) (by kernel_rfl) ⟨rg_z0, rg_z1⟩ (fun hHeld => ?_)
    refine wpAnyH_take (i := 0) (v := .slice a len cap) rfl (by kernel_rfl) (by kernel_rfl) (by kernel_rfl) (fun _ _ _ h => h) (Or.inl ⟨by rfl, ?_⟩) (by assumption) ?_
    · (intro w hSw; (try dsimp only at hSw); go_simp)
    (try simp only [Act.put, List.getElem_toArray, List.getElem_cons_succ, List.getElem_cons_zero, List.setIfInBounds_toArray, List.set_cons_zero, List.set_cons_succ])
    refine wpAnyH_take (i := 1) (v := .slice b ln cp) rfl (by kernel_rfl) (by kernel_rfl) (by kernel_rfl) (fun _ _ _ h => h) (Or.inl ⟨by rfl, ?_⟩) (by assumption) ?_
    · (intro w hSw; (try dsimp only at hSw); go_simp)
    (try simp only [Act.put, List.getElem_toArray, List.getElem_cons_succ, List.getElem_cons_zero, List.setIfInBounds_toArray, List.set_cons_zero, List.set_cons_succ])
    refine wpAnyH_take (i := 3) (v := .agg #[.int .i64 p1, .int .i64 p2]) rfl (by kernel_rfl) (by kernel_rfl) (by kernel_rfl) (fun _ _ _ h => h) (Or.inl ⟨by rfl, ?_⟩) (by assumption) ?_
    · (intro w hSw; (try dsimp only at hSw); go_simp)
    (try simp only [Act.put, List.getElem_toArray, List.getElem_cons_succ, List.getElem_cons_zero, List.setIfInBounds_toArray, List.set_cons_zero, List.set_cons_succ])
    refine wpAnyH_ready (rs := [2]) (by kernel_rfl) (by simp) ?_
    refine AllReadyH.cons rfl (fun K hK => ?_) AllReadyH.nil
    go_simp
    refine (LI.out _ (TW.out _ BX.out)).mono ?_
    rintro e y1 ⟨v5, rfl, o5, b1⟩
    replace BX := hid (BX.out.trans (b1.mono BX.out.size))
    obtain ⟨aa, cc, rfl, hm⟩ := HLM.out _ _ (TW.out _ BX.out) (o5.weaken (TW.out _ (Below.drew (Below.refl w4.heap.size w4))).size)
    have CC := hid (C2.out _ _ _ (TW.out _ BX.out) hm)
    replace rg_z0 := keepc b1 rg_z0
    replace rg_z1 := keepc b1 rg_z1
    refine hK.out _ _ ⟨rg_z0, rg_z1⟩ (fun hHeld => ?_)
    clear hK K
    (try simp only [Act.put, List.getElem_toArray, List.getElem_cons_succ, List.getElem_cons_zero, List.setIfInBounds_toArray, List.set_cons_zero, List.set_cons_succ])
    refine wpAnyH_ready (rs := [4]) (by kernel_rfl) (by simp) ?_
    refine AllReadyH.cons rfl (fun K hK => ?_) AllReadyH.nil
    go_simp
    refine CC.out.mono ?_
    rintro e y2 ⟨rfl, b2⟩
    replace BX := hid (BX.out.trans (b2.mono BX.out.size))
    replace rg_z0 := keepc b2 rg_z0
    replace rg_z1 := keepc b2 rg_z1
    refine hK.out _ _ ⟨rg_z0, rg_z1⟩ (fun hHeld => ?_)
    clear hK K
    (try simp only [Act.put, List.getElem_toArray, List.getElem_cons_succ, List.getElem_cons_zero, List.setIfInBounds_toArray, List.set_cons_zero, List.set_cons_succ])
    refine wpAnyH_take (i := 5) (v := .tuple #[.int .i64 CT, .int .i64 CE]) rfl (by kernel_rfl) (by kernel_rfl) (by kernel_rfl) (fun _ _ _ h => h) (Or.inl ⟨by rfl, ?_⟩) (by assumption) ?_
    · (intro w hSw; (try dsimp only at hSw); go_simp)
    (try simp only [Act.put, List.getElem_toArray, List.getElem_cons_succ, List.getElem_cons_zero, List.setIfInBounds_toArray, List.set_cons_zero, List.set_cons_succ])
    refine wpAnyH_take (i := 6) (v := .int .i64 CT) rfl (by kernel_rfl) (by kernel_rfl) (by kernel_rfl) (fun _ _ _ h => h) (Or.inl ⟨by rfl, ?_⟩) (by assumption) ?_
    · (intro w hSw; (try dsimp only at hSw); go_simp)
    (try simp only [Act.put, List.getElem_toArray, List.getElem_cons_succ, List.getElem_cons_zero, List.setIfInBounds_toArray, List.set_cons_zero, List.set_cons_succ])
    refine wpAnyH_take (i := 7) (v := .int .i64 CE) rfl (by kernel_rfl) (by kernel_rfl) (by kernel_rfl) (fun _ _ _ h => h) (Or.inl ⟨by rfl, ?_⟩) (by assumption) ?_
    · (intro w hSw; (try dsimp only at hSw); go_simp)
    (try simp only [Act.put, List.getElem_toArray, List.getElem_cons_succ, List.getElem_cons_zero, List.setIfInBounds_toArray, List.set_cons_zero, List.set_cons_succ])
    refine wpAnyH_take (i := 8) (v := .int .i64 CT) rfl (by kernel_rfl) (by kernel_rfl) (by kernel_rfl) (fun _ _ _ h => h) (Or.inl ⟨by rfl, ?_⟩) (by assumption) ?_
    · (intro w hSw; (try dsimp only at hSw); go_simp)
    (try simp only [Act.put, List.getElem_toArray, List.getElem_cons_succ, List.getElem_cons_zero, List.setIfInBounds_toArray, List.set_cons_zero, List.set_cons_succ])
    refine wpAnyH_take (i := 9) (v := .int .i64 CE) rfl (by kernel_rfl) (by kernel_rfl) (by kernel_rfl) (fun _ _ _ h => h) (Or.inl ⟨by rfl, ?_⟩) (by assumption) ?_
    · (intro w hSw; (try dsimp only at hSw); go_simp)
    (try simp only [Act.put, List.getElem_toArray, List.getElem_cons_succ, List.getElem_cons_zero, List.setIfInBounds_toArray, List.set_cons_zero, List.set_cons_succ])
    refine wpAnyH_done (by kernel_rfl) ?_ _
    clear hHeld rg_z0 rg_z1
    have BE := hid (TW.out _ BX.out)
    go_wp2
    go_ret
    exact ⟨rfl, BE.out⟩

theorem own : ownKnob Try.prog.godebug = none := by kernel_rfl
theorem laidOut : laidOutB Try.prog = true := by kernel_rfl

set_option maxRecDepth 100000 in
theorem lifted (os : Os) (started : os.Started) (H : Type) (enc : TypeId × Value → H) :
    ReturnsInHanded {} Try.checked os 6 .any (Rows.victimStopsSpec.pre6 enc Try.prog Try.f6 Rows.victimStopsRow.domain false) (Rows.victimStopsSpec.post enc Try.prog Try.f6 false true false false) := by
  refine returnsInHanded_of_change_sized (C := Try.checked) own started (by kernel_rfl) Try.func6
    (ChangeSpec.witness6 (enc := enc) (C := Try.checked) false ⟨#[], #[.slice none 0 0, .slice none 0 0, .agg #[.int .i64 0, .int .i64 0]], []⟩ 8 (by kernel_rfl) (by kernel_rfl) (by kernel_rfl) (by kernel_rfl)) ?_
  intro W base args ds gs before hval0 hW hcnd hsz0 _
  have hsz : (DataW.weightsEach Try.prog (Try.f6.params.toList ++ Rows.victimStopsSpec.plain.varTypes Try.prog) (ds ++ gs)).all (· ≤ reachBytes) = true := hsz0
  have hval : ∀ (j : Nat) t v, Try.f6.params[j]? = some t → args[j]? = some v → Value.okWide Try.prog W .any base t v := hval0
  have hW' := hW
  obtain ⟨p, q, hA0, hV, rfl, hfz, hnd⟩ := hW
  have hA : DataW.TrodAll enc Try.prog W 0 (fun _ => true) true Try.f6.params.toList args.toList ds p := hA0
  rw [Try.params6] at hA hval hsz
  obtain ⟨v0, vs0, d0, ds0, p0, q0, hargs, rfl, rfl, h0, r0⟩ := trodAll_cons hA
  obtain ⟨v1, vs1, d1, ds1, p1, q1, rfl, rfl, rfl, h1, r1⟩ := trodAll_cons r0
  obtain ⟨v2, vs2, d2, ds2, p2, q2, rfl, rfl, rfl, h2, r2⟩ := trodAll_cons r1
  obtain ⟨rfl, rfl, rfl⟩ := trodAll_nil r2
  obtain rfl : args = #[v0, v1, v2] := by cases args; simp_all
  obtain ⟨rfl, rfl⟩ := trodVars_none hV
  have lt0 : ∀ x ∈ p0, x.block < W.heap.size := by obtain ⟨m, hm⟩ := h0; exact DataW.trod_lt m _ _ _ hm
  have lt1 : ∀ x ∈ p1, x.block < W.heap.size := by obtain ⟨m, hm⟩ := h1; exact DataW.trod_lt m _ _ _ hm
  have lt2 : ∀ x ∈ p2, x.block < W.heap.size := by obtain ⟨m, hm⟩ := h2; exact DataW.trod_lt m _ _ _ hm
  obtain ⟨a0, len0, cap0, rfl⟩ := okWide_slice Try.underlying30 (hval 0 30 v0 rfl rfl)
  obtain ⟨z0, w0, k0, dr0⟩ := val_rowE (k := 7) (en := Qu.cs) (ok := Qu.ok) Try.underlying30 (by kernel_rfl) Qu.cs_len (by decide) (fun _ _ _ h => trod_queue h) h0
  have s0 : cap0 * 56 ≤ 140737488351232 := sized_cap dr0 hsz (j := 0) rfl rfl Try.underlying30 (by kernel_rfl)
  obtain ⟨a1, len1, cap1, rfl⟩ := okWide_slice Try.underlying22 (hval 1 22 v1 rfl rfl)
  obtain ⟨z1, w1, k1, dr1, nest1, kb1⟩ := val_rowL Try.underlying22 h1
  have s1 : cap1 * 80 ≤ 140737488351232 := sized_cap dr1 hsz (j := 1) rfl rfl Try.underlying22 (by kernel_rfl)
  have n1 : ∀ q ∈ z1, q.sc * 8 ≤ 140737488351232 := nest1 (by rw [List.all_eq_true]; intro n hn; exact (List.all_eq_true.1 hsz) n (DataW.weights_mem_each (j := 1) rfl rfl n hn))
  obtain ⟨a2_0, a2_1, rfl, w2_0, w2_1⟩ := val_vec2 Try.underlying32 Try.underlying2 Try.underlying2 (by kernel_rfl) (by kernel_rfl) (hval 2 32 v2 rfl rfl) h2
  clear hA0 hval0
  refine (walk a0 len0 cap0 z0 a1 len1 cap1 z1 a2_0 a2_1 W w0 k0 s0 w1 k1 kb1 s1 n1 w2_0 w2_1).mono fun e W' ⟨he, bel⟩ => ?_
  subst he
  exact ⟨_, rfl, _, _, _, [], _, [], hW', trodAll_mk1 (shut_bool Try.underlying4 _), (trodAll_cons_mk (Below.trod laidOut (by kernel_rfl) (of_decide_eq_true (by kernel_rfl)) h0 bel lt0) (trodAll_cons_mk (Below.trod laidOut (by kernel_rfl) (of_decide_eq_true (by kernel_rfl)) h1 bel lt1) (trodAll_cons_mk (Below.trod laidOut (by kernel_rfl) (of_decide_eq_true (by kernel_rfl)) h2 bel lt2) trodAll_mk0))), rfl, bel.frame _, fun h => by cases h⟩

theorem over : Rows.victimStopsRow.holds Try.pinned (OpenSpec.ofChange Rows.victimStopsSpec) :=
  OpenClaim.holds_of_wide 6 Try.f6 rfl rfl rfl rfl rfl rfl rfl ⟨rfl, rfl, rfl, rfl, rfl⟩ rfl rfl rfl rfl rfl (by kernel_rfl) Try.func6 (by kernel_rfl)
    (of_decide_eq_true (by kernel_rfl)) (by unfold Func.isWrapper; first | (rw [if_pos (by decide +kernel)]; kernel_rfl) | (rw [if_neg (by decide +kernel)]; exact ⟨rfl, rfl⟩))
    (fun os started H enc _ => lifted os started H enc)

theorem proved : Rows.VictimStopsSaid := over

end Go.Proofs.Ytdbkjcnanffibaa.victimStops
