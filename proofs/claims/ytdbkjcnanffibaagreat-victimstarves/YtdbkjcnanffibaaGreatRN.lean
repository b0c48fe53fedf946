/-
  The document's answer for queues: Sums, whole.
-/
import Derived.Test.YtdbkjcnanffibaaGreatRM
namespace Go.Proofs.YtdbkjcnanffibaaGreat
open Go.RowKit Go.Deep Go.Maps Go.Shelf
set_option linter.unusedVariables false

set_option maxRecDepth 100000 in
set_option maxHeartbeats 8000000 in
theorem rsums_none (b off len cap : Nat) (l : List Qu) (ub : Option Addr) (uc : Nat) (w : World) (h : HoldsQ w (some ⟨b, off, none⟩) len cap l) (hE : chkE l = 0) :
    Calls Tryz.prog 37 #[.slice (some ⟨b, off, none⟩) len cap, .slice ub 0 uc] w fun e w' => ∃ v, e = .returned (.tuple #[v, .int .i64 (halfE l [])]) ∧ OwnV w.heap.size w' v (halfR l []).length (halfR l []) ∧ Below w.heap.size w w' := by
  have HC := hid (rcheckq_any _ len cap l w h)
  have HL := hid h.1
  have hcap0 := h.2.1
  have hcm := h.2.2.1
  have hG := chkE_ok.1 hE
  have hp : 0 < len := by have := hG.2.1.1; rw [HL.out] at this; exact this
  have hle : len ≤ 64 := by rw [← HL.out]; exact hG.1
  have FP := hid hG.2.1
  obtain ⟨b', off', eb, R⟩ := h.row hp
  cases eb
  have HR := hid R
  have HH := hid h
  obtain ⟨us, hus⟩ : ∃ us : List Us, us = [] := ⟨_, rfl⟩
  rw [← hus]
  have NL : Hid (us.length = 0) := by rw [hus]; rfl
  have AG : Hid (∀ u ∈ us, useE l u = 0) := fun u hu => by rw [hus] at hu; cases hu
  rw [hE] at HC
  clear hE hG R h hus
  go_enter Tryz.func37, Tryz.ntmps37
  go_wp2_with fail
  refine HC.out.mono ?_
  rintro e w1 ⟨rfl, b1⟩
  have HB1 := hid b1
  clear b1
  go_wp2_with fail
  go_loopw [22] (fun i wr => i = .int .i64 0 ∧ Below w.heap.size w wr) (fun _ _ => 0)
  case atStart => exact ⟨rfl, HB1.out⟩
  case round =>
    obtain ⟨rfl, hB⟩ := hrel
    have hBs := hB
    clear hB
    obtain ⟨n, hn0⟩ : ∃ n : Nat, n = 0 := ⟨_, rfl⟩
    go_wp2_with fail
    go_loopw [9, 46] (fun m i wr => ∃ k : Nat, k ≤ len ∧ i = .int .i64 k ∧ Hid (OwnV w.heap.size wr m k (vecsTo l us k)) ∧ Hid (∀ j, j < k → okv (vecAt l us j) = true) ∧ Below w.heap.size w wr) (fun _ i _ => len - (intOf i).toNat)
    case atStart => exact ⟨0, by omega, rfl, OwnE.nil _ _ _ _ _, fun j hj => absurd hj (by omega), hBs⟩
    case round =>
      obtain ⟨k, hk, rfl, ho, hgo, hB⟩ := hrel
      by_cases hlt : k < len
      · have hlt' : k < l.length := by rw [HL.out]; exact hlt
        obtain ⟨e0, e1, e2, e3, e4, e5, e6⟩ := (HR.out.below hB).2 k hlt'
        have PX := hid (FP.out.pl hlt')
        generalize hxq : qa l k = x at *
        obtain ⟨x1, x2, x3, x4, x5, x6, x7⟩ := x
        simp only at *
        clear hxq
        rename World => WR
        go_wp2_with fail
        go_loopw [53] (fun i w2 => ∃ k2 : Nat, k2 ≤ 0 ∧ i = .int .i64 k2 ∧ Hid (Below (WR.alloc (.cells #[.int .i64 x1, .int .i64 x2, .int .i64 x3, .int .i64 x4, .int .i64 x5, .int .i64 x6, .int .i64 x7] 38)).heap.size (WR.alloc (.cells #[.int .i64 x1, .int .i64 x2, .int .i64 x3, .int .i64 x4, .int .i64 x5, .int .i64 x6, .int .i64 x7] 38)) w2) ∧ Hid (w2.cell? ⟨WR.heap.size + 1, 0, none⟩ = some (.int .i64 (cm (sumU Us.uc l k (us.take k2))))) ∧ Hid (w2.cell? ⟨WR.heap.size + 1, 1, none⟩ = some (.int .i64 (cm (sumU Us.um l k (us.take k2))))) ∧ Hid (∀ j, w2.frozen? ⟨WR.heap.size + 1, j, none⟩ = false)) (fun _ _ => 0)
        case atStart => exact ⟨0, by omega, rfl, (Below.refl _ (WR.alloc (.cells #[.int .i64 x1, .int .i64 x2, .int .i64 x3, .int .i64 x4, .int .i64 x5, .int .i64 x6, .int .i64 x7] 38))).alloc (Nat.le_refl _) _, by simp [Hid, go_sem]; rfl, by simp [Hid, go_sem]; rfl, fun j => by simp [go_sem]⟩
        case round =>
          obtain ⟨k2, hk2, rfl, hBW, hc0, hc1, hfz⟩ := hrel
          have hsz := hBW.out.size
          simp only [World.size_alloc] at hsz
          by_cases hlt2 : k2 < 0
          · exact absurd hlt2 (by omega)
          · have hkn : k2 = us.length := by rw [NL.out]; omega
            rw [hkn, List.take_length] at hc0 hc1
            have nc := sumU_nonneg Us.uc l k us (fun u hu => (useE_zero (AG.out u hu)).2.2.1.1)
            have nm := sumU_nonneg Us.um l k us (fun u hu => (useE_zero (AG.out u hu)).2.2.2.1)
            have OK := hid (okv_cm nc nm)
            have s0 := hc0.out
            have s1 := hc1.out
            have hBw2 : Below w.heap.size w wr := (hB.alloc hB.size (.cells #[.int .i64 x1, .int .i64 x2, .int .i64 x3, .int .i64 x4, .int .i64 x5, .int .i64 x6, .int .i64 x7] 38)).trans (hBW.out.mono (by have := hB.size; simp; omega))
            have hW2 : Below WR.heap.size WR wr := ((Below.refl _ WR).alloc (Nat.le_refl _) (.cells #[.int .i64 x1, .int .i64 x2, .int .i64 x3, .int .i64 x4, .int .i64 x5, .int .i64 x6, .int .i64 x7] 38)).trans (hBW.out.mono (by simp))
            have ho2 := hid (ho.out.below hW2)
            have VA : Hid (vecAt l us k = (sumU Us.uc l k us, sumU Us.um l k us)) := rfl
            have VS := hid (vecsTo_snoc l us k)
            rw [VA.out] at VS
            clear hkn hc0 hc1 e0 e1 e2 e3 e4 e5 e6
            cases hgd : okv (sumU Us.uc l k us, sumU Us.um l k us)
            · have FN := hid (fitsB_no hlt' (by rw [VA.out]; exact hgd))
              have HG := hid hgd
              clear hgd
              generalize sumU Us.uc l k us = C at *
              generalize sumU Us.um l k us = M at *
              rw [HG.out] at OK
              generalize cm C = cC at *
              generalize cm M = cM at *
              go_wp2_with fail
              refine (good_any cC cM wr).mono ?_
              rintro e w4 ⟨rfl, b4⟩
              rw [OK.out]
              have B4 := hBw2.trans (b4.mono hBw2.size)
              go_wp2
              go_ret2
              refine ⟨.slice none 0 0, ?_, ?_, B4⟩
              · rw [halfE_no FN.out]; rfl
              · rw [halfR_no FN.out]; exact OwnE.nil _ _ _ _ _
            · have HG := hid hgd
              obtain ⟨gc, gm⟩ := okv_true hgd
              have e1' := cm_same gc
              have e2' := cm_same gm
              clear OK
              have OK := hid hgd
              simp only at e1' e2'
              rw [e1'] at s0
              rw [e2'] at s1
              have NG : Hid (∀ j, j < k + 1 → okv (vecAt l us j) = true) := fun j hj => by
                rcases Nat.lt_or_ge j k with h | h
                · exact hgo.out j h
                · have : j = k := by omega
                  rw [this, VA.out]; exact HG.out
              clear hgd gc gm e1' e2' HG
              generalize sumU Us.uc l k us = C at *
              generalize sumU Us.um l k us = M at *
              go_wp2_with fail
              refine (good_any C M wr).mono ?_
              rintro e w4 ⟨rfl, b4⟩
              rw [OK.out]
              have B4 := hBw2.trans (b4.mono hBw2.size)
              have ho4 := hid (ho2.out.below b4)
              have p0 := keepc b4 s0
              have p1 := keepc b4 s1
              clear b4 s0 s1 ho2
              go_wp2_with (at_builtin; refine push_v w4 C M rfl (.tmp 83) (.tmp 85) rfl w.heap.size k u9 (vecsTo l us k) rfl ho4.out B4.size rfl (by omega) ?_)
              intro v5 w5 O5 b5 _
              have HO5 := hid O5
              have B5 := B4.trans b5
              clear O5 b5
              go_wp2
              go_roundw
              case rel => exact ⟨k + 1, by omega, by go_num, by rw [VS.out]; exact HO5, NG, B5⟩
              case measure => simp [intOf]; omega
      · have hkl : k = l.length := by rw [HL.out]; omega
        have FY := hid (fitsB_yes (l := l) (us := us) (fun j hj => hgo.out j (by omega)))
        have hO := ho.out
        rw [hkl] at hO
        have HO := hid hO
        clear hO hkl ho hgo
        go_wp2
        go_ret2
        refine ⟨u9, ?_, ?_, hB⟩
        · rw [halfE_yes FY.out]; rfl
        · rw [halfR_yes FY.out, vecsTo_len]; exact HO.out

set_option maxRecDepth 100000 in
set_option maxHeartbeats 8000000 in
theorem rsums_bad (b off len cap : Nat) (l : List Qu) (vb vo n uc : Nat) (us : List Us) (w : World) (h : HoldsQ w (some ⟨b, off, none⟩) len cap l) (hu : HoldsU w (some ⟨vb, vo, none⟩) n uc us) (hn : 0 < n) (hE : chkE l = 0) (hA : ¬ ∀ u ∈ us, useE l u = 0) :
    Calls Tryz.prog 37 #[.slice (some ⟨b, off, none⟩) len cap, .slice (some ⟨vb, vo, none⟩) n uc] w fun e w' => e = .returned (.tuple #[.slice none 0 0, .int .i64 (usesE l us)]) ∧ Below w.heap.size w w' := by
  have HC := hid (rcheckq_any _ len cap l w h)
  have HL := hid h.1
  have NL := hid hu.1
  have hcap0 := h.2.1
  have hcm := h.2.2.1
  have ucap := hu.2.1
  have ucm := hu.2.2.1
  have hG := chkE_ok.1 hE
  have hp : 0 < len := by have := hG.2.1.1; rw [HL.out] at this; exact this
  have hle : len ≤ 64 := by rw [← HL.out]; exact hG.1
  have HH := hid h
  obtain ⟨b', off', eb, RU⟩ := hu.rowU hn
  cases eb
  have UR := hid RU
  have AG := hid hA
  rw [hE] at HC
  clear hE hG RU h hu hA
  go_enter Tryz.func37, Tryz.ntmps37
  go_wp2_with fail
  refine HC.out.mono ?_
  rintro e w1 ⟨rfl, b1⟩
  have HB1 := hid b1
  clear b1
  go_wp2_with fail
  go_loopw [22] (fun i wr => ∃ k : Nat, k ≤ n ∧ i = .int .i64 k ∧ Hid (∀ u ∈ us.take k, useE l u = 0) ∧ Below w.heap.size w wr) (fun i _ => n - (intOf i).toNat)
  case atStart => exact ⟨0, by omega, rfl, fun u hu => by simp at hu, HB1.out⟩
  case round =>
    obtain ⟨kk, hkk, rfl, hgo, hB⟩ := hrel
    by_cases hltn : kk < n
    · have hlu : kk < us.length := by rw [NL.out]; exact hltn
      obtain ⟨r0, r1, r2⟩ := (UR.out kk hltn)
      replace r0 := keepc hB r0
      replace r1 := keepc hB r1
      replace r2 := keepc hB r2
      have BAD := hid (fun hb => usesE_bad (l := l) hlu hgo.out hb)
      have NX : Hid (useE l (ua us kk) = 0 → ∀ u ∈ us.take (kk + 1), useE l u = 0) := fun h0 u hu => by
        rw [ua_snoc hlu, List.mem_append] at hu
        rcases hu with hu | hu
        · exact hgo.out u hu
        · rw [List.mem_singleton] at hu; rw [hu]; exact h0
      generalize ua us kk = y at *
      obtain ⟨u1, u2, u3⟩ := y
      simp only at *
      cases hz1 : hasQ l u1
      · have E : useE l ⟨u1, u2, u3⟩ = 8 := by unfold useE; rw [if_pos hz1]
        have EB := hid (BAD.out (by rw [E]; decide))
        rw [E] at EB
        have Z1 := hid hz1
        clear hz1 E
        go_wp2_with fail
        refine (rhas_any _ len cap l u1 _ (HH.out.below (hB.alloc hB.size _))).mono ?_
        rintro e w2 ⟨rfl, b2⟩
        rw [Z1.out]
        have B2 : Below w.heap.size w w2 := (hB.alloc hB.size (.cells #[.int .i64 u1, .int .i64 u2, .int .i64 u3] 44)).trans (b2.mono (by have := hB.size; simp; omega))
        clear b2
        go_wp2
        go_ret2
        rw [EB.out]
        exact ⟨rfl, B2⟩
      · have Z1 := hid hz1
        cases hz2 : leafB l u1
        · have E : useE l ⟨u1, u2, u3⟩ = 14 := by unfold useE; rw [if_neg (by rw [hz1]; decide), if_pos hz2]
          have EB := hid (BAD.out (by rw [E]; decide))
          rw [E] at EB
          have Z2 := hid hz2
          clear hz1 hz2 E
          go_wp2_with fail
          refine (rhas_any _ len cap l u1 _ (HH.out.below (hB.alloc hB.size _))).mono ?_
          rintro e w2 ⟨rfl, b2⟩
          rw [Z1.out]
          have B2 : Below w.heap.size w w2 := (hB.alloc hB.size (.cells #[.int .i64 u1, .int .i64 u2, .int .i64 u3] 44)).trans (b2.mono (by have := hB.size; simp; omega))
          have c0 := keepc b2 (a := ⟨wr.heap.size, 0, none⟩) (v := .int .i64 u1) (by simp [go_sem])
          have c1 := keepc b2 (a := ⟨wr.heap.size, 1, none⟩) (v := .int .i64 u2) (by simp [go_sem])
          have c2 := keepc b2 (a := ⟨wr.heap.size, 2, none⟩) (v := .int .i64 u3) (by simp [go_sem])
          clear b2 r0 r1 r2
          go_wp2_with fail
          refine (rleaf_any b off len cap l u1 w2 (HH.out.below B2) hp hle).mono ?_
          rintro e w3 ⟨rfl, b3⟩
          rw [Z1.out, Z2.out, Bool.true_and]
          have B3 := B2.trans (b3.mono B2.size)
          have d1 := keepc b3 c1
          have d2 := keepc b3 c2
          clear b3 c0 c1 c2
          go_wp2
          go_ret2
          rw [EB.out]
          exact ⟨rfl, B3⟩
        · have Z2 := hid hz2
          cases hz3 : okv (u2, u3)
          · have E : useE l ⟨u1, u2, u3⟩ = 1 := by unfold useE; rw [if_neg (by rw [hz1]; decide), if_neg (by rw [hz2]; decide)]; exact chk_no hz3
            have EB := hid (BAD.out (by rw [E]; decide))
            rw [E] at EB
            have Z3 := hid hz3
            clear hz1 hz2 hz3 E
            go_wp2_with fail
            refine (rhas_any _ len cap l u1 _ (HH.out.below (hB.alloc hB.size _))).mono ?_
            rintro e w2 ⟨rfl, b2⟩
            rw [Z1.out]
            have B2 : Below w.heap.size w w2 := (hB.alloc hB.size (.cells #[.int .i64 u1, .int .i64 u2, .int .i64 u3] 44)).trans (b2.mono (by have := hB.size; simp; omega))
            have c0 := keepc b2 (a := ⟨wr.heap.size, 0, none⟩) (v := .int .i64 u1) (by simp [go_sem])
            have c1 := keepc b2 (a := ⟨wr.heap.size, 1, none⟩) (v := .int .i64 u2) (by simp [go_sem])
            have c2 := keepc b2 (a := ⟨wr.heap.size, 2, none⟩) (v := .int .i64 u3) (by simp [go_sem])
            clear b2 r0 r1 r2
            go_wp2_with fail
            refine (rleaf_any b off len cap l u1 w2 (HH.out.below B2) hp hle).mono ?_
            rintro e w3 ⟨rfl, b3⟩
            rw [Z1.out, Z2.out, Bool.true_and]
            have B3 := B2.trans (b3.mono B2.size)
            have d1 := keepc b3 c1
            have d2 := keepc b3 c2
            clear b3 c0 c1 c2
            go_wp2_with fail
            refine (good_any u2 u3 w3).mono ?_
            rintro e w4 ⟨rfl, b4⟩
            rw [Z3.out]
            have B4 := B3.trans (b4.mono B3.size)
            clear b4 d1 d2
            go_wp2
            go_ret2
            rw [EB.out]
            exact ⟨rfl, B4⟩
          · have E : useE l ⟨u1, u2, u3⟩ = 0 := by unfold useE; rw [if_neg (by rw [hz1]; decide), if_neg (by rw [hz2]; decide)]; exact chk_ok hz3
            have NG := hid (NX.out E)
            have Z3 := hid hz3
            clear hz1 hz2 hz3 E
            go_wp2_with fail
            refine (rhas_any _ len cap l u1 _ (HH.out.below (hB.alloc hB.size _))).mono ?_
            rintro e w2 ⟨rfl, b2⟩
            rw [Z1.out]
            have B2 : Below w.heap.size w w2 := (hB.alloc hB.size (.cells #[.int .i64 u1, .int .i64 u2, .int .i64 u3] 44)).trans (b2.mono (by have := hB.size; simp; omega))
            have c0 := keepc b2 (a := ⟨wr.heap.size, 0, none⟩) (v := .int .i64 u1) (by simp [go_sem])
            have c1 := keepc b2 (a := ⟨wr.heap.size, 1, none⟩) (v := .int .i64 u2) (by simp [go_sem])
            have c2 := keepc b2 (a := ⟨wr.heap.size, 2, none⟩) (v := .int .i64 u3) (by simp [go_sem])
            clear b2 r0 r1 r2
            go_wp2_with fail
            refine (rleaf_any b off len cap l u1 w2 (HH.out.below B2) hp hle).mono ?_
            rintro e w3 ⟨rfl, b3⟩
            rw [Z1.out, Z2.out, Bool.true_and]
            have B3 := B2.trans (b3.mono B2.size)
            have d1 := keepc b3 c1
            have d2 := keepc b3 c2
            clear b3 c0 c1 c2
            go_wp2_with fail
            refine (good_any u2 u3 w3).mono ?_
            rintro e w4 ⟨rfl, b4⟩
            rw [Z3.out]
            have B4 := B3.trans (b4.mono B3.size)
            clear b4 d1 d2
            go_wp2
            go_roundw
            case rel => exact ⟨kk + 1, by omega, by go_num, NG, B4⟩
            case measure => simp [intOf]; omega
    · exfalso
      refine AG.out (fun u hu => hgo.out u ?_)
      rw [List.take_of_length_le (by rw [NL.out]; omega)]
      exact hu

theorem usesE_ne {l : List Qu} : ∀ {us : List Us}, (¬ ∀ u ∈ us, useE l u = 0) → usesE l us ≠ 0 := by
  intro us
  induction us with
  | nil => intro h; exact absurd (fun u hu => by cases hu) h
  | cons u r ih =>
    intro h
    unfold usesE
    by_cases h0 : useE l u = 0
    · rw [if_neg (by rw [h0]; decide)]
      refine ih (fun hr => h (fun x hx => ?_))
      rcases List.mem_cons.1 hx with rfl | hx
      · exact h0
      · exact hr x hx
    · rw [if_pos h0]; exact h0
theorem rsums_any (a : Option Addr) (len cap : Nat) (l : List Qu) (ub : Option Addr) (n uc : Nat) (us : List Us) (w : World) (h : HoldsQ w a len cap l) (hu : HoldsU w ub n uc us) :
    Calls Tryz.prog 37 #[.slice a len cap, .slice ub n uc] w fun e w' => ∃ v, e = .returned (.tuple #[v, .int .i64 (sumsE l us)]) ∧ OwnV w.heap.size w' v (sumsR l us).length (sumsR l us) ∧ Below w.heap.size w w' := by
  by_cases hC : chkE l = 0
  · have hp : 0 < len := by have := (chkE_ok.1 hC).2.1.1; rw [h.1] at this; exact this
    obtain ⟨b, off, rfl, _⟩ := h.row hp
    have half : (∀ u ∈ us, useE l u = 0) → sumsE l us = halfE l us ∧ sumsR l us = halfR l us := fun hA => by
      have e1 : sumsE l us = halfE l us := by unfold sumsE halfE; rw [if_neg (by rw [hC]; decide), if_neg (by rw [usesE_good hA]; decide)]
      refine ⟨e1, ?_⟩
      unfold sumsR
      rw [e1]
      cases hf : fitsB l us
      · rw [halfE_no hf, halfR_no hf]; rfl
      · rw [halfE_yes hf, halfR_yes hf, if_pos rfl]
    rcases Nat.eq_zero_or_pos n with rfl | hn
    · obtain rfl : us = [] := List.length_eq_zero_iff.1 hu.1
      obtain ⟨e1, e2⟩ := half (fun u hu => by cases hu)
      rw [e1, e2]
      exact rsums_none b off len cap l ub uc w h hC
    · obtain ⟨vb, vo, rfl, _⟩ := hu.rowU hn
      by_cases hA : ∀ u ∈ us, useE l u = 0
      · obtain ⟨e1, e2⟩ := half hA
        rw [e1, e2]
        exact rsums_uses b off len cap l vb vo n uc us w h hu hn hC hA
      · refine (rsums_bad b off len cap l vb vo n uc us w h hu hn hC hA).mono ?_
        rintro e w' ⟨rfl, hb⟩
        have hne : usesE l us ≠ 0 := usesE_ne hA
        have E : sumsE l us = usesE l us := by unfold sumsE; rw [if_neg (by rw [hC]; decide), if_pos hne]
        exact ⟨_, by rw [E], by unfold sumsR; rw [E, if_neg hne]; exact OwnE.nil _ _ _ _ _, hb⟩
  · have E : sumsE l us = chkE l := by unfold sumsE; rw [if_pos hC]
    refine (rsums_list a len cap l ub n uc us w h hC).mono ?_
    rintro e w' ⟨rfl, hb⟩
    exact ⟨_, by rw [E], by unfold sumsR; rw [E, if_neg hC]; exact OwnE.nil _ _ _ _ _, hb⟩

end Go.Proofs.YtdbkjcnanffibaaGreat
