/- StrideScripts: for every list of calls the law answers true, and the list reads as it did. No further conditions. -/
import Derived.Test.YtdenhpclopjjgaaGV
namespace Go.Proofs.Ytdenhpclopjjgaa.strideScripts
open Go.ChangeShapes Go.WideShapes Go.ChangeAt Go.RowKit Go.Deep Go.Maps
set_option linter.unusedVariables false
set_option linter.unusedSimpArgs false

set_option maxRecDepth 100000 in
set_option maxHeartbeats 16000000 in
theorem walk (a0 : Option Addr) (len0 cap0 : Nat) (z0 : List Oc) (w : World) (w0 : HoldsO w a0 len0 cap0 z0) (k0 : ∀ o ∈ z0, o.ok) :
    Calls Try.prog 3 #[.slice a0 len0 cap0] w fun e w' => e = .returned (.bool true) ∧ Below w.heap.size w w' := by
  have HH := hid w0
  have KK := hid k0
  have HL := hid w0.1
  have hcap := w0.2.1
  have hcm := w0.2.2.1
  clear w0 k0
  by_cases hbig : 300 < len0
  · have t1 : decide ((300 : Int) < (len0 : Int)) = true := by simp; omega
    go_enter Try.func3, Try.ntmps3
    go_wp2_with fail
    refine (awake9_any w).mono ?_
    rintro e wd1 ⟨rfl, b1⟩
    go_wp2
    go_ret
    exact ⟨rfl, b1⟩
  have t1 : decide ((300 : Int) < (len0 : Int)) = false := by simp; omega
  go_enter Try.func3, Try.ntmps3
  go_wp2_with fail
  refine (awake9_any w).mono ?_
  rintro e wd1 ⟨rfl, b1⟩
  have B1 := hid b1
  clear b1
  go_wp2_with fail
  refine (new_any wd1).mono ?_
  rintro e wd2 ⟨gb, rfl, g2, hgb, b2⟩
  have G2 := hid g2
  have B2 := hid (B1.out.trans (b2.mono B1.out.size))
  have hs1 := B1.out.size
  clear b2 g2
  go_wp2_with fail
  go_loopw [4, 17] (fun u v wr => ∃ (k r n c : Nat) (ak : Option Addr) (m : List Cl), k ≤ len0 ∧ u = .slice ak n c ∧ v = .int .i64 (k : Int) ∧ Hid (Gr m) ∧ Hid (Grp wr gb r m) ∧ Hid (HoldsC wr ak n c m) ∧ Hid (Sep wr ak gb r) ∧ w.heap.size ≤ r ∧ Hid (Below w.heap.size w wr)) (fun _ v _ => len0 - (intOf v).toNat)
  case atStart => exact ⟨0, gb, 0, 0, none, [], by omega, rfl, rfl, Gr.nil, G2.out, ⟨rfl, Nat.le_refl _, Nat.zero_le _, fun _ => ⟨rfl, rfl⟩, fun h => absurd h (by omega)⟩, (fun x o (e : none = some _) => by cases e), by omega, B2.out⟩
  case round =>
    rename World => wo
    obtain ⟨k, r, n, c, ak, m, hk, rfl, rfl, hGm, hG, hH, hS, hr, hB⟩ := hrel
    by_cases hlt : k < len0
    · have hlt' : k < z0.length := by rw [HL.out]; exact hlt
      obtain ⟨b, off, rfl, R⟩ := HH.out.rowO (by omega)
      obtain ⟨c0, c1, c2, c3, c4⟩ := R k hlt
      replace c0 := keepc hB.out c0
      replace c1 := keepc hB.out c1
      replace c2 := keepc hB.out c2
      replace c3 := keepc hB.out c3
      replace c4 := keepc hB.out c4
      clear R
      have hok := hid (KK.out _ (oa_mem hlt'))
      have ka : (0 : Int) ≤ (k : Int) := by omega
      have kb : (k : Int) < (len0 : Int) := by omega
      generalize hox : oa z0 k = o at *
      obtain ⟨kd, id, tk, rm, nn⟩ := o
      clear hox
      simp only at c0 c1 c2 c3 c4
      have bb : Below wo.heap.size wo (wo.alloc (boxO ⟨kd, id, tk, rm, nn⟩)) := (Below.refl _ _).alloc (Nat.le_refl _) _
      have B3 : Hid (Below w.heap.size w (wo.alloc (boxO ⟨kd, id, tk, rm, nn⟩))) := hB.out.alloc hB.out.size _
      have G3 := hid (hG.out.below bb)
      have H3 := hid (hH.out.below bb)
      have S3 : Hid (Sep (wo.alloc (boxO ⟨kd, id, tk, rm, nn⟩)) ak gb r) := by
        intro x o e
        have := hS.out x o e
        have := bb.size
        omega
      by_cases hskip : kd = 4 ∧ 300 < nn ∧ nn ≤ 100000
      · obtain ⟨rfl, s1, s2⟩ := hskip
        have u2 : decide (300 < nn) = true := by simpa using s1
        have u3 : decide (nn ≤ 100000) = true := by simpa using s2
        clear s1 s2 hG hH hS hB bb
        go_wp2
        go_roundw
        case rel => exact ⟨k + 1, r, n, c, ak, m, by omega, rfl, by go_num, hGm, G3, H3, S3, hr, B3⟩
        case measure => simp [intOf]; omega
      · have hs : (kd == 4) = false ∨ ((kd == 4) = true ∧ decide (300 < nn) = false) ∨ ((kd == 4) = true ∧ decide (300 < nn) = true ∧ decide (nn ≤ 100000) = false) := by
          by_cases e : kd = 4
          · subst e
            by_cases e2 : 300 < nn
            · right; right; exact ⟨rfl, by simpa using e2, by simp; omega⟩
            · right; left; exact ⟨rfl, by simpa using e2⟩
          · left; simpa using e
        have PA := hid (play_any (w := wo.alloc (boxO ⟨kd, id, tk, rm, nn⟩)) (cap := c) ⟨kd, id, tk, rm, nn⟩ G3.out H3.out hGm.out S3.out hok.out)
        have GO := hid (hGm.out.opS hok.out)
        generalize opS m ⟨kd, id, tk, rm, nn⟩ = m2 at *
        simp only at PA
        clear hskip hG hH hS hB bb
        rcases hs with u1 | ⟨u1, u2⟩ | ⟨u1, u2, u3⟩
        all_goals
          go_wp2_with fail
          refine PA.out.mono ?_
          rintro e w4 ⟨v4, rfl, a4, c4, r4, rfl, g4, h4, s4, t4, p4⟩
          have G4 := hid g4
          have H4 := hid h4
          have S4 := hid s4
          have hb3 := B3.out.size
          have B4 := hid (B3.out.trans (t4.below (by omega) hr B3.out.size))
          have R4 : Hid (w.heap.size ≤ r4) := by rcases p4 with h | h <;> (unfold Hid; omega)
          clear g4 h4 s4 t4 p4
          go_wp2_with fail
          refine (alike_any gb r4 a4 m2.length c4 m2 w4 G4.out H4.out GO.out.len).mono ?_
          rintro e w5 ⟨rfl, b5⟩
          have G5 := hid (G4.out.below b5)
          have H5 := hid (H4.out.below b5)
          have S5 : Hid (Sep w5 a4 gb r4) := by
            intro x o e
            have := S4.out x o e
            have := b5.size
            omega
          have B5 := hid (B4.out.trans (b5.mono B4.out.size))
          clear b5
          go_wp2
          go_roundw
          case rel => exact ⟨k + 1, r4, m2.length, c4, a4, m2, by omega, rfl, by go_num, GO, G5, H5, S5, R4.out, B5⟩
          case measure => simp [intOf]; omega
    · have kn : k = len0 := by omega
      subst kn
      go_wp2
      go_ret
      exact ⟨rfl, hB.out⟩

theorem own : ownKnob Try.prog.godebug = none := by kernel_rfl
theorem laidOut : laidOutB Try.prog = true := by kernel_rfl

set_option maxRecDepth 100000 in
theorem lifted (os : Os) (started : os.Started) (H : Type) (enc : TypeId × Value → H) :
    ReturnsInHanded {} Try.checked os 3 .any (Rows.strideScriptsSpec.pre6 enc Try.prog Try.f3 Rows.strideScriptsRow.domain false) (Rows.strideScriptsSpec.post enc Try.prog Try.f3 false true false false) := by
  refine returnsInHanded_of_change (C := Try.checked) own started (by kernel_rfl) Try.func3
    (ChangeSpec.witness6 (enc := enc) (C := Try.checked) false ⟨#[], #[.slice none 0 0], []⟩ 8 (by kernel_rfl) (by kernel_rfl) (by kernel_rfl) (by kernel_rfl)) ?_
  intro W base args ds gs before hval0 hW hcnd _
  have hval : ∀ (j : Nat) t v, Try.f3.params[j]? = some t → args[j]? = some v → Value.okWide Try.prog W .any base t v := hval0
  have hW' := hW
  obtain ⟨p, q, hA0, hV, rfl, hfz, hnd⟩ := hW
  have hA : DataW.TrodAll enc Try.prog W 0 (fun _ => true) true Try.f3.params.toList args.toList ds p := hA0
  rw [Try.params3] at hA hval
  obtain ⟨v0, vs0, d0, ds0, p0, q0, hargs, rfl, rfl, h0, r0⟩ := trodAll_cons hA
  obtain ⟨rfl, rfl, rfl⟩ := trodAll_nil r0
  obtain rfl : args = #[v0] := by cases args; simp_all
  obtain ⟨rfl, rfl⟩ := trodVars_none hV
  have lt0 : ∀ x ∈ p0, x.block < W.heap.size := by obtain ⟨m, hm⟩ := h0; exact DataW.trod_lt m _ _ _ hm
  obtain ⟨a0, len0, cap0, rfl⟩ := okWide_slice Try.underlying22 (hval 0 22 v0 rfl rfl)
  obtain ⟨z0, w0, k0, dr0⟩ := val_rowE (k := 5) (en := Oc.cs) (ok := Oc.ok) Try.underlying22 (by kernel_rfl) Oc.cs_len (by decide) (fun _ _ _ h => trod_op h) h0
  clear hA0 hval0
  refine (walk a0 len0 cap0 z0 W w0 k0).mono fun e W' ⟨he, bel⟩ => ?_
  subst he
  exact ⟨_, rfl, _, _, _, [], _, [], hW', trodAll_mk1 (shut_bool Try.underlying4 _), (trodAll_cons_mk (Below.trod laidOut (by kernel_rfl) (of_decide_eq_true (by kernel_rfl)) h0 bel lt0) trodAll_mk0), rfl, bel.frame _, fun h => by cases h⟩

theorem over : Rows.strideScriptsRow.holds Try.pinned (OpenSpec.ofChange Rows.strideScriptsSpec) :=
  OpenClaim.holds_of_wide 3 Try.f3 rfl rfl rfl rfl rfl rfl rfl ⟨rfl, rfl, rfl, rfl, rfl⟩ rfl rfl rfl rfl rfl (by kernel_rfl) Try.func3 (by kernel_rfl)
    (of_decide_eq_true (by kernel_rfl)) (by unfold Func.isWrapper; first | (rw [if_pos (by decide +kernel)]; kernel_rfl) | (rw [if_neg (by decide +kernel)]; exact ⟨rfl, rfl⟩))
    (fun os started H enc _ => lifted os started H enc)

theorem proved : Rows.StrideScriptsSaid := over
#print axioms proved
end Go.Proofs.Ytdenhpclopjjgaa.strideScripts
