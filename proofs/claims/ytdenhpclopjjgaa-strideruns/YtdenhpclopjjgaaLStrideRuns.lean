/- StrideRuns: for every list of calls and both counts the law answers true, and the list reads as it did. No further conditions. -/
import Derived.Test.YtdenhpclopjjgaaGP
namespace Go.Proofs.Ytdenhpclopjjgaa.strideRuns
open Go.ChangeShapes Go.WideShapes Go.ChangeAt Go.RowKit Go.Deep Go.Maps
set_option linter.unusedVariables false
set_option linter.unusedSimpArgs false
attribute [local go_sem ↓] appF_eq

set_option maxRecDepth 100000 in
set_option maxHeartbeats 4000000 in
theorem walk_out (a0 : Option Addr) (len0 cap0 : Nat) (a1 a2 : Int) (w : World) (h : a1 < 0 ∨ 500 < a1 ∨ a2 < 0 ∨ 500 < a2) :
    Calls Try.prog 6 #[.slice a0 len0 cap0, .int .i64 a1, .int .i64 a2] w fun e w' => e = .returned (.bool true) ∧ Below w.heap.size w w' := by
  have hr : (decide (a1 < 0) = true) ∨ (decide (a1 < 0) = false ∧ decide (500 < a1) = true) ∨ (decide (a1 < 0) = false ∧ decide (500 < a1) = false ∧ decide (a2 < 0) = true) ∨ (decide (a1 < 0) = false ∧ decide (500 < a1) = false ∧ decide (a2 < 0) = false ∧ decide (500 < a2) = true) := by simp; omega
  clear h
  rcases hr with t1 | ⟨t1, t2⟩ | ⟨t1, t2, t3⟩ | ⟨t1, t2, t3, t4⟩
  all_goals
    go_enter Try.func6, Try.ntmps6
    go_wp2_with fail
    refine (awake9_any w).mono ?_
    rintro e wd1 ⟨rfl, b1⟩
    go_wp2
    go_ret
    exact ⟨rfl, b1⟩

set_option maxRecDepth 100000 in
set_option maxHeartbeats 8000000 in
theorem walk_in (a0 : Option Addr) (len0 cap0 : Nat) (z0 : List Oc) (A B : Nat) (w : World) (w0 : HoldsO w a0 len0 cap0 z0) (k0 : ∀ o ∈ z0, o.ok) (hA : A ≤ 500) (hB' : B ≤ 500) :
    Calls Try.prog 6 #[.slice a0 len0 cap0, .int .i64 (A : Int), .int .i64 (B : Int)] w fun e w' => e = .returned (.bool true) ∧ Below w.heap.size w w' := by
  have HH := hid w0
  have KK := hid k0
  have GM := Gr.made k0
  have t1 : decide ((A : Int) < 0) = false := by simp
  have t2 : decide ((500 : Int) < (A : Int)) = false := by simp; omega
  have t3 : decide ((B : Int) < 0) = false := by simp
  have t4 : decide ((500 : Int) < (B : Int)) = false := by simp; omega
  have hw : IntKind.i64.wrap ((A : Int) + (B : Int)) = (A : Int) + (B : Int) := by rw [IntKind.wrap_i64]; omega
  clear w0 k0
  go_enter Try.func6, Try.ntmps6
  go_wp2_with fail
  refine (awake9_any w).mono ?_
  rintro e wd1 ⟨rfl, b1⟩
  have B1 := hid b1
  clear b1
  go_wp2_with fail
  refine (made_any a0 len0 cap0 z0 wd1 (HH.out.below B1.out) KK.out).mono ?_
  rintro e wd2 ⟨gb, r, rfl, g2, hg2, hr2, b2⟩
  have G2 := hid g2
  have B2 := hid (B1.out.trans (b2.mono B1.out.size))
  have hs1 := B1.out.size
  clear b2 g2
  go_wp2_with fail
  refine (made_any a0 len0 cap0 z0 wd2 (HH.out.below B2.out) KK.out).mono ?_
  rintro e wd3 ⟨hb, s, rfl, g3, hg3, hr3, b3⟩
  have H3 := hid g3
  have G3 := hid (G2.out.below b3)
  have B3 := hid (B2.out.trans (b3.mono B2.out.size))
  have hs2 := b3.size
  obtain ⟨lg, lr⟩ := G2.out.lt
  obtain ⟨lh, ls⟩ := H3.out.lt
  clear b3 g3
  have ML := hid (fun W (hW : Below w.heap.size w W) => made_any a0 len0 cap0 z0 W (HH.out.below hW) KK.out)
  have HL := GM.len
  generalize hml : madeM z0 = l at *
  clear hml
  have GR := hid GM
  clear GM
  go_wp2_with fail
  refine (run_any gb r l A wd3 G3.out GR.out).mono ?_
  rintro e wd4 ⟨v4, rfl, o4, g4, t4'⟩
  have G4 := hid g4
  have O4 := hid o4
  have XL4 := hid (fun g e => (o4.lt g e).2)
  have H4 := hid (H3.out.tn t4' (by omega) (by omega) (by omega) (by omega))
  have B4 := hid (B3.out.trans (t4'.below (by omega) (by omega) B3.out.size))
  have hs3 := t4'.size
  have hs03 := B3.out.size
  clear g4 o4 t4'
  go_wp2_with fail
  refine (run_any gb r (runM l A) B wd4 G4.out (GR.out.run _)).mono ?_
  rintro e wd5 ⟨v5, rfl, o5, g5, t5'⟩
  have O5 := hid o5
  have O45 := hid (O4.out.tn t5' (by omega) (by omega))
  have H5 := hid (H4.out.tn t5' (by omega) (by omega) (by omega) (by omega))
  have B5 := hid (B4.out.trans (t5'.below (by omega) (by omega) B4.out.size))
  have hs4 := t5'.size
  clear g5 o5 t5' O4
  go_wp2_with fail
  refine (run_any hb s l ((A : Int) + (B : Int)) wd5 H5.out GR.out).mono ?_
  rintro e wd6 ⟨v6, rfl, o6, g6, t6'⟩
  have O6 := hid o6
  have H6 := hid g6
  have O46 := hid (O45.out.tn t6' (by omega) (by omega))
  have O56 := hid (O5.out.tn t6' (by omega) (by omega))
  have B6 := hid (B5.out.trans (t6'.below (by omega) (by omega) B5.out.size))
  have hs5 := t6'.size
  clear g6 o6 t6' O45 O5
  have GR6 := hid (GR.out.run ((A : Int) + (B : Int)))
  go_wp2_with fail
  refine (list_any hb s _ wd6 H6.out GR6.out.len).mono ?_
  rintro e wd7 ⟨v7, rfl, o7, b7⟩
  have hl7 : (runM l ((A : Int) + (B : Int))).length = l.length := by
    unfold runM
    split
    · exact pks_len _ _
    · rfl
  rw [hl7] at o7
  obtain ⟨a7, c7, rfl⟩ := o7.form
  have B7 := hid (B6.out.trans (b7.mono B6.out.size))
  have O47 := hid (O46.out.below b7)
  have O57 := hid (O56.out.below b7)
  have O67 := hid (O6.out.below b7)
  have hs6 := b7.size
  clear o7 b7 O46 O56 O6
  by_cases hp : 0 < l.length
  · obtain ⟨e1, e2, e3⟩ := runE_ok (l := l) (n := A) (by omega) (fun _ => hp)
    have hp2 : 0 < (pks l A).length := by rw [pks_len]; exact hp
    obtain ⟨e4, e5, e6⟩ := runE_ok (l := pks l A) (n := B) (by omega) (fun _ => hp2)
    obtain ⟨e7, e8, e9⟩ := runE_ok (l := l) (n := A + B) (by omega) (fun _ => hp)
    have hcast : (((A + B : Nat)) : Int) = (A : Int) + (B : Int) := by simp
    rw [hcast] at e7 e8 e9
    rw [e2, pids_len] at O47
    rw [e3, e5, pids_len] at O57
    rw [e8, pids_len] at O67
    rw [e1, e3, e4, e7]
    clear e1 e2 e3 e4 e5 e6 e7 e8 e9 hcast
    obtain ⟨a6, c6, rfl⟩ := O67.out.form
    obtain ⟨a5, c5, rfl⟩ := O57.out.form
    have Z7 := hid (O67.out.holds encN_len)
    have Y7 := hid (O57.out.holds encN_len)
    have ZL := hid (fun g e => (O67.out.lt g e).1)
    have XL := hid (fun g e => (O47.out.lt g e))
    have hs7 := B7.out.size
    have tl : ((l.length : Int) == 0) = false := by simpa using (by omega : ¬ (l.length : Int) = 0)
    obtain ⟨N, hN⟩ : ∃ N, A + B = N := ⟨_, rfl⟩
    have PZ : Hid (∀ k, k < N → (pids l N)[k]?.getD 0 = pid (pks l k)) := by
      intro k hk
      unfold pids
      rw [List.getElem?_map, List.getElem?_range hk]; rfl
    rw [hN] at Z7
    have CC : Hid (pids l A ++ pids (pks l A) B = pids l N) := by rw [← hN]; exact (pids_add l A B).symm
    have XB := hid (O47.out.weaken (Nat.zero_le _) : OwnN 0 wd7 v4 A (pids l A))
    clear O57 O67
    rw [hN]
    go_wp2_with fail
    refine (ML.out wd7 B7.out).mono ?_
    rintro e wd8 ⟨hb3, r3, rfl, g8, hg8, hr8, b8⟩
    have G8 := hid g8
    have B8 := hid b8
    clear g8 b8
    go_wp2_with fail
    go_loopw [89] (fun v wr => ∃ k : Nat, k ≤ N ∧ v = .int .i64 (k : Int) ∧ Hid (Grp wr hb3 r3 (pks l k)) ∧ Hid (Below wd7.heap.size wd7 wr)) (fun v _ => N - (intOf v).toNat)
    case atStart => exact ⟨0, by omega, rfl, G8.out, B8.out⟩
    case round =>
      obtain ⟨k, hk, rfl, hG, hB⟩ := hrel
      by_cases hlt : k < N
      · obtain ⟨zb, zo, rfl, RZ⟩ := Z7.out.rowN (by omega)
        have c0 := keepc hB.out (RZ k hlt)
        rw [PZ.out k hlt] at c0
        clear RZ
        have PK := hid (pick_any hb3 r3 (pks l k) wr hG.out (GR.out.pks hp k))
        have pl : ¬ (pks l k).length = 0 := by rw [pks_len]; omega
        have q1 : pickE (pks l k) = 0 := by unfold pickE; rw [if_neg pl]
        have q2 : pickV (pks l k) = pid (pks l k) := by unfold pickV; rw [if_neg pl]
        have q3 : pickM (pks l k) = pks l (k + 1) := by unfold pickM; rw [if_neg pl]; rfl
        rw [q1, q2, q3] at PK
        clear q1 q2 q3 pl
        have ka : (0 : Int) ≤ (k : Int) := by omega
        have kb : (k : Int) < (N : Int) := by omega
        generalize pid (pks l k) = pv at *
        have tn : (pv != pv) = false := by simp
        go_wp2_with fail
        refine PK.out.mono ?_
        rintro e wx ⟨rfl, gx, tx⟩
        have GX := hid gx
        have BX := hid (hB.out.trans (tx.below hg8 hr8 hB.out.size))
        clear gx tx
        go_wp2
        go_roundw
        case rel => exact ⟨k + 1, by omega, by go_num, GX, BX⟩
        case measure => simp [intOf]; omega
      · have XR := XB.out.below hB.out
        have YR := Y7.out.below hB.out
        have ZR := Z7.out.below hB.out
        obtain ⟨v9, w9, hrun, o9, b9, hgr⟩ := app_run 36 0 A B c5 wr v4 a5 _ _ XR YR (Nat.zero_le _) (by omega)
        rw [CC.out, hN] at o9
        obtain ⟨a9, c9, rfl⟩ := o9.form
        have Z9 := hid (ZR.grow hgr (fun x o e h => by
          subst e
          have h1 := ZL.out x rfl
          intro e2
          have h2 := (XL.out x e2.symm).2
          have h3 := XL4.out x e2.symm
          omega))
        have X9 := hid (o9.holds encN_len)
        have B9 : Hid (Below w.heap.size w w9) := by
          have h1 := B7.out.trans (hB.out.mono hs7)
          refine h1.grown hgr h1.size (fun x e => ?_)
          have := (XL.out x e).1
          omega
        have IA := hid (fun W (hW : Below w9.heap.size w9 W) => ints_any a9 a6 N c9 c6 (pids l N) w9 X9.out Z9.out (by omega))
        clear XR YR ZR o9 b9 hgr
        go_wp2_with fail
        refine (IA.out w9 (Below.refl _ _)).mono ?_
        rintro e wf ⟨rfl, bf⟩
        have BF := hid (B9.out.trans (bf.mono B9.out.size))
        go_wp2
        go_ret
        exact ⟨rfl, BF.out⟩
  · have hl0 : l = [] := List.length_eq_zero_iff.1 (by omega)
    subst hl0
    have rE : ∀ n : Int, 0 ≤ n → n ≤ 100000 → ((n == 0) == (runE [] n == 0)) = true := by
      intro n h1 h2
      by_cases hn : n = 0
      · subst hn; rfl
      · have : runE [] n = 8 := by unfold runE; rw [if_neg (by omega), if_pos ⟨by omega, rfl⟩]
        rw [this]
        simpa using hn
    have rM : ∀ n : Int, runM [] n = [] := by
      intro n
      unfold runM
      split
      · exact pks_nil _
      · rfl
    have x1 := rE A (by omega) (by omega)
    have x2 := rE B (by omega) (by omega)
    have x3 := rE ((A : Int) + (B : Int)) (by omega) (by omega)
    rw [rM]
    clear rE rM GR6 G4 O47 O57 O67
    generalize runE [] (A : Int) = ra at *
    generalize runE [] (B : Int) = rb at *
    generalize runE [] ((A : Int) + (B : Int)) = rc at *
    go_wp2
    go_ret
    exact ⟨rfl, B7.out⟩

theorem walk (a0 : Option Addr) (len0 cap0 : Nat) (z0 : List Oc) (a1 a2 : Int) (w : World) (w0 : HoldsO w a0 len0 cap0 z0) (k0 : ∀ o ∈ z0, o.ok) (w1 : I64 a1) (w2 : I64 a2) :
    Calls Try.prog 6 #[.slice a0 len0 cap0, .int .i64 a1, .int .i64 a2] w fun e w' => e = .returned (.bool true) ∧ Below w.heap.size w w' := by
  by_cases h : a1 < 0 ∨ 500 < a1 ∨ a2 < 0 ∨ 500 < a2
  · exact walk_out a0 len0 cap0 a1 a2 w h
  · obtain ⟨A, rfl⟩ : ∃ A : Nat, a1 = A := ⟨a1.toNat, by omega⟩
    obtain ⟨B, rfl⟩ : ∃ B : Nat, a2 = B := ⟨a2.toNat, by omega⟩
    exact walk_in a0 len0 cap0 z0 A B w w0 k0 (by omega) (by omega)

theorem own : ownKnob Try.prog.godebug = none := by kernel_rfl
theorem laidOut : laidOutB Try.prog = true := by kernel_rfl

set_option maxRecDepth 100000 in
theorem lifted (os : Os) (started : os.Started) (H : Type) (enc : TypeId × Value → H) :
    ReturnsInHanded {} Try.checked os 6 .any (Rows.strideRunsSpec.pre6 enc Try.prog Try.f6 Rows.strideRunsRow.domain false) (Rows.strideRunsSpec.post enc Try.prog Try.f6 false true false false) := by
  refine returnsInHanded_of_change (C := Try.checked) own started (by kernel_rfl) Try.func6
    (ChangeSpec.witness6 (enc := enc) (C := Try.checked) false ⟨#[], #[.slice none 0 0, .int .i64 0, .int .i64 0], []⟩ 8 (by kernel_rfl) (by kernel_rfl) (by kernel_rfl) (by kernel_rfl)) ?_
  intro W base args ds gs before hval0 hW hcnd _
  have hval : ∀ (j : Nat) t v, Try.f6.params[j]? = some t → args[j]? = some v → Value.okWide Try.prog W .any base t v := hval0
  have hW' := hW
  obtain ⟨p, q, hA0, hV, rfl, hfz, hnd⟩ := hW
  have hA : DataW.TrodAll enc Try.prog W 0 (fun _ => true) true Try.f6.params.toList args.toList ds p := hA0
  rw [Try.params6] at hA hval
  obtain ⟨v0, vs0, d0, ds0, p0, q0, hargs, rfl, rfl, h0, r0⟩ := trodAll_cons hA
  obtain ⟨v1, vs1, d1, ds1, p1, q1, rfl, rfl, rfl, h1, r1⟩ := trodAll_cons r0
  obtain ⟨v2, vs2, d2, ds2, p2, q2, rfl, rfl, rfl, h2, r2⟩ := trodAll_cons r1
  obtain ⟨rfl, rfl, rfl⟩ := trodAll_nil r2
  obtain rfl : args = #[v0, v1, v2] := by cases args; simp_all
  obtain ⟨rfl, rfl⟩ := trodVars_none hV
  have lt0 : ∀ x ∈ p0, x.block < W.heap.size := by obtain ⟨m, hm⟩ := h0; exact DataW.trod_lt m _ _ _ hm
  have lt1 : ∀ x ∈ p1, x.block < W.heap.size := by obtain ⟨m, hm⟩ := h1; exact DataW.trod_lt m _ _ _ hm
  have lt2 : ∀ x ∈ p2, x.block < W.heap.size := by obtain ⟨m, hm⟩ := h2; exact DataW.trod_lt m _ _ _ hm
  obtain ⟨a0, len0, cap0, rfl⟩ := okWide_slice Try.underlying22 (hval 0 22 v0 rfl rfl)
  obtain ⟨z0, w0, k0, dr0⟩ := val_rowE (k := 5) (en := Oc.cs) (ok := Oc.ok) Try.underlying22 (by kernel_rfl) Oc.cs_len (by decide) (fun _ _ _ h => trod_op h) h0
  obtain ⟨a1, rfl, w1⟩ := val_i64 Try.underlying3 (hval 1 3 v1 rfl rfl) h1
  obtain ⟨a2, rfl, w2⟩ := val_i64 Try.underlying3 (hval 2 3 v2 rfl rfl) h2
  clear hA0 hval0
  refine (walk a0 len0 cap0 z0 a1 a2 W w0 k0 w1 w2).mono fun e W' ⟨he, bel⟩ => ?_
  subst he
  exact ⟨_, rfl, _, _, _, [], _, [], hW', trodAll_mk1 (shut_bool Try.underlying4 _), (trodAll_cons_mk (Below.trod laidOut (by kernel_rfl) (of_decide_eq_true (by kernel_rfl)) h0 bel lt0) (trodAll_cons_mk (Below.trod laidOut (by kernel_rfl) (of_decide_eq_true (by kernel_rfl)) h1 bel lt1) (trodAll_cons_mk (Below.trod laidOut (by kernel_rfl) (of_decide_eq_true (by kernel_rfl)) h2 bel lt2) trodAll_mk0))), rfl, bel.frame _, fun h => by cases h⟩

theorem over : Rows.strideRunsRow.holds Try.pinned (OpenSpec.ofChange Rows.strideRunsSpec) :=
  OpenClaim.holds_of_wide 6 Try.f6 rfl rfl rfl rfl rfl rfl rfl ⟨rfl, rfl, rfl, rfl, rfl⟩ rfl rfl rfl rfl rfl (by kernel_rfl) Try.func6 (by kernel_rfl)
    (of_decide_eq_true (by kernel_rfl)) (by unfold Func.isWrapper; first | (rw [if_pos (by decide +kernel)]; kernel_rfl) | (rw [if_neg (by decide +kernel)]; exact ⟨rfl, rfl⟩))
    (fun os started H enc _ => lifted os started H enc)

theorem proved : Rows.StrideRunsSaid := over
#print axioms proved
end Go.Proofs.Ytdenhpclopjjgaa.strideRuns
