/-
  The document's answers of victim: Uses.
  The document's answers of victim: sums of leases, live, yields.
  Contracts of furlongref02: Less by lev, DocLess.
  The document's answers of victim: Choose.
  The document's answers of victim: Choose, with its errors.
-/
import Derived.Test.YtdbkjcnanffibaaGreatMB
import Derived.Test.YtdbkjcnanffibaaGreatRM
import Derived.Test.YtdbkjcnanffibaaGreatRN
import Derived.Test.YtdbkjcnanffibaaGreatMX
import Derived.Test.YtdbkjcnanffibaaGreatRO
namespace Go.Proofs.YtdbkjcnanffibaaGreat
open Go.RowKit Go.Deep Go.Maps Go.Shelf
set_option linter.unusedVariables false
set_option linter.unusedSimpArgs false

theorem gd_is {x : Le} : x.gd = (decide (x.sl ≤ 64) && decide (0 ≤ x.me ∧ x.me ≤ 1099511627776)) := by
  unfold Le.gd
  by_cases h : x.sl ≤ 64
  · rw [decide_eq_true h, Bool.true_and, Bool.true_and]
    unfold okv okp
    apply decide_eq_decide.2
    simp only
    omega
  · rw [decide_eq_false h]; rfl
theorem gd_me {l : List Le} (hg : gdB l = true) {x : Le} (hx : x ∈ l) : x.me ≤ 1099511627776 := by
  unfold gdB at hg
  rw [List.all_eq_true] at hg
  have := hg x hx
  unfold Le.gd at this
  rw [Bool.and_eq_true] at this
  exact (okv_true this.2).2.2
theorem cm_min (s : Int) : cm s = min s 1099511627777 := by unfold cm; split <;> omega
theorem gd_sl {l : List Le} (hg : gdB l = true) {x : Le} (hx : x ∈ l) : x.sl ≤ 64 := by
  unfold gdB at hg
  rw [List.all_eq_true] at hg
  have := hg x hx
  unfold Le.gd at this
  rw [Bool.and_eq_true] at this
  exact of_decide_eq_true this.1
set_option maxRecDepth 100000 in
set_option maxHeartbeats 8000000 in
theorem ruses_any (a : Option Addr) (len cap : Nat) (l : List Le) (w : World) (h : HoldsL w a len cap l) (hok : ∀ x ∈ l, x.okB) (hn : len * 64 ≤ 140737488355328) :
    Calls Tryz.prog 36 #[.slice a len cap] w fun e w' => ∃ v, e = .returned (.tuple #[v, .int .i64 (useErr l)]) ∧ OwnE 44 3 Us.cs w.heap.size w' v (uvL l).length (uvL l) ∧ Below w.heap.size w w' := by
  have HQ := hid h
  have HL := hid h.1.1
  have hcap := h.1.2.1
  have hcm := h.1.2.2.1
  have HO := hid hok
  clear h hok
  go_enter Tryz.func36, Tryz.ntmps36
  go_wp2_with fail
  go_loopw [4, 15] (fun s i wr => ∃ k : Nat, k ≤ len ∧ i = .int .i64 (k : Int) ∧ Hid (OwnN w.heap.size wr s (idsT l k).length (idsT l k)) ∧ Hid (∀ j, j < k → (la l j).gd = true) ∧ Hid (Below w.heap.size w wr)) (fun s i _ => len - (intOf i).toNat)
  case atStart => exact ⟨0, by omega, rfl, OwnE.nil _ _ _ _ _, fun j hj => absurd hj (by omega), Below.refl _ _⟩
  case round =>
    obtain ⟨k, hk, rfl, hO, hall, hB⟩ := hrel
    by_cases hlt : k < len
    · have hlt' : k < l.length := by rw [HL.out]; exact hlt
      obtain ⟨b, off, rfl, hbl, Rw⟩ := HQ.out.1.rowL (by omega)
      obtain ⟨d1, d2, d3, d4, d5, d6, d7, d8⟩ := Rw k hlt
      have c1 := keepc hB.out d1
      have c2 := keepc hB.out d2
      have c3 := keepc hB.out d3
      have c4 := keepc hB.out d4
      have c5 := keepc hB.out d5
      have c6 := keepc hB.out d6
      have c7 := keepc hB.out d7
      have c8 := keepc hB.out d8
      have ka : (0 : Int) ≤ (k : Int) := by omega
      have kb : (k : Int) < (len : Int) := by omega
      clear d1 d2 d3 d4 d5 d6 d7 d8 Rw
      have GD := hid (gd_is (x := la l k))
      have BAD := hid (fun (e : (la l k).gd = false) => useErr_bad hlt' e)
      have IN := hid (fun (e : hasN (idsT l k) (la l k).qu = true) => idsT_in HO.out hlt' e)
      have OU := hid (fun (e : hasN (idsT l k) (la l k).qu = false) => idsT_out (l := l) (k := k) e)
      have UB : useErr l = 1 → uvL l = [] := fun e => by unfold uvL; rw [if_neg (by rw [e]; decide)]
      have HUB := hid UB
      clear UB
      have hil := idsT_len l k
      obtain ⟨ia, ic, rfl⟩ := hO.out.form
      have HI := hid (hO.out.holds encN_len)
      generalize hx : la l k = x at *
      have HX := hid hx
      clear hx
      obtain ⟨x1, x2, x3, sa, sl, sc, x5, x6, x7, x8, co⟩ := x
      simp only at c1 c2 c3 c4 c5 c6 c7 c8 GD IN OU
      have HH := hid (fun W (hW : Below wr.heap.size wr W) => hasN_any ia (idsT l k).length ic (idsT l k) x2 W (HI.out.below hW) (by omega))
      have HR := hid (fun W (hW : Below wr.heap.size wr W) => rinsert_any ia (idsT l k).length ic (idsT l k) x2 W (HI.out.below hW) (by omega))
      have BA := hid ((Below.refl wr.heap.size wr).alloc (Nat.le_refl _) (.cells #[.int .i64 x1, .int .i64 x2, .int .i64 x3, .slice sa sl sc, .int .i64 x5, .int .i64 x6, .int .i64 x7, .bool x8] 42))
      have a2 : (wr.alloc (.cells #[.int .i64 x1, .int .i64 x2, .int .i64 x3, .slice sa sl sc, .int .i64 x5, .int .i64 x6, .int .i64 x7, .bool x8] 42)).cell? ⟨wr.heap.size, 1, none⟩ = some (.int .i64 x2) := by simp [go_sem]
      generalize hln : (idsT l k).length = ln at *
      have HLN := hid hln
      clear hln HI
      cases hg : (⟨x1, x2, x3, sa, sl, sc, x5, x6, x7, x8, co⟩ : Le).gd with
      | false =>
        have ER := hid (BAD.out hg)
        have UV := hid (HUB.out ER.out)
        rw [hg] at GD
        clear hall IN OU BAD HUB HX HLN a2 hg hil
        by_cases t1 : x5 < 0
        · go_wp2_with fail
          go_ret2
          exact ⟨_, ret_u ER.out, by rw [UV.out]; exact OwnE.nil _ _ _ _ _, hB.out.trans (BA.out.mono hB.out.size)⟩
        · by_cases t2 : 1099511627776 < x5
          · go_wp2_with fail
            go_ret2
            exact ⟨_, ret_u ER.out, by rw [UV.out]; exact OwnE.nil _ _ _ _ _, hB.out.trans (BA.out.mono hB.out.size)⟩
          · have t3 : (64 : Int) < (sl : Int) := by
              have h1 := GD.out.symm
              rw [Bool.and_eq_false_iff, decide_eq_false_iff_not, decide_eq_false_iff_not] at h1
              omega
            go_wp2_with fail
            go_ret2
            exact ⟨_, ret_u ER.out, by rw [UV.out]; exact OwnE.nil _ _ _ _ _, hB.out.trans (BA.out.mono hB.out.size)⟩
      | true =>
        have h1 := GD.out.symm
        rw [hg, Bool.and_eq_true, decide_eq_true_eq, decide_eq_true_eq] at h1
        obtain ⟨g1, g2, g3⟩ := h1
        have AL : Hid (∀ j, j < k + 1 → (la l j).gd = true) := fun j hj => by
          rcases Nat.lt_or_ge j k with h | h
          · exact hall.out j h
          · obtain rfl : j = k := by omega
            rw [HX.out]; exact hg
        clear hall BAD HUB HX GD hg
        cases hh : hasN (idsT l k) x2 with
        | true =>
          have E := hid (IN.out hh)
          rw [hh] at HH
          clear IN OU HR hh
          go_wp2_with fail
          refine (HH.out _ BA.out).mono ?_
          rintro e w1 ⟨rfl, rfl⟩
          have BX := hid BA.out
          clear HH
          go_wp2_with fail
          refine ⟨⟨k + 1, by omega, by go_num, by unfold Hid; rw [E.out, HLN.out]; exact hO.out.below BX.out, AL, hB.out.trans (BX.out.mono hB.out.size)⟩, ?_⟩
          simp [intOf]; omega
        | false =>
          have E := hid (OU.out hh)
          rw [hh] at HH
          clear IN OU hh
          go_wp2_with fail
          refine (HH.out _ BA.out).mono ?_
          rintro e w1 ⟨rfl, rfl⟩
          have BX := hid BA.out
          clear HH
          go_wp2_with fail
          refine (HR.out _ BX.out).mono ?_
          rintro e w2 ⟨v2, rfl, o2, b2⟩
          have BY := hid (BX.out.trans (b2.mono BX.out.size))
          have O2 := hid (o2.weaken (b' := w.heap.size) (Nat.le_trans hB.out.size BX.out.size))
          clear o2 b2 HR
          go_wp2_with fail
          refine ⟨⟨k + 1, by omega, by go_num, by unfold Hid; rw [← E.out]; exact O2.out, AL, hB.out.trans (BY.out.mono hB.out.size)⟩, ?_⟩
          simp [intOf]; omega
    · obtain rfl : k = len := by omega
      have e0 := HL.out
      subst e0
      have GB := hid (gdB_at (fun j hj => hall.out j hj))
      obtain ⟨ia, ic, rfl⟩ := hO.out.form
      have HI := hid (hO.out.holds encN_len)
      have RT := hid (riseT HO.out (Nat.le_refl l.length))
      have hil := idsT_len l l.length
      have VS := hid hB.out
      have PO := hid (fun q {k : Nat} (hk : k ≤ l.length) => useT_pos GB.out q hk)
      clear hall hO hB
      have UVL : Hid (useErr l = 0 → uvL l = usesOf (fun q => useT l q l.length) (idsT l l.length)) := fun e => by rw [uvL_yes e]; rfl
      have UVN : Hid (useErr l = 2 → uvL l = []) := fun e => by unfold uvL; rw [if_neg (by rw [e]; decide)]
      have FIN : Hid ((∀ q ∈ idsT l l.length, okv (useT l q l.length) = true) → useErr l = 0) := fun hq => useErr_fine GB.out hq HO.out
      have OVR := hid (fun q (h : okv (useT l q l.length) = false) => useErr_over GB.out h)
      have GDA := hid (fun x (hx : x ∈ l) => gd_pos GB.out x hx)
      generalize idsT l l.length = ids at *
      generalize hn' : ids.length = n at *
      have HN := hid hn'
      clear hn'
      rename World => w0
      go_wp2_with fail
      go_loopw [7, 45] (fun s i wr => ∃ j : Nat, j ≤ n ∧ i = .int .i64 (j : Int) ∧ Hid (OwnE 44 3 Us.cs w0.heap.size wr s j (usesOf (fun q => useT l q l.length) (ids.take j))) ∧ Hid (∀ m, m < j → okv (useT l (ids[m]?.getD 0) l.length) = true) ∧ Hid (Below w0.heap.size w0 wr)) (fun s i _ => n - (intOf i).toNat)
      case atStart => exact ⟨0, by omega, rfl, OwnE.nil _ _ _ _ _, fun j hj => absurd hj (by omega), Below.refl _ _⟩
      case round =>
        obtain ⟨j, hj, rfl, hO, hall, hB⟩ := hrel
        by_cases hlt : j < n
        · have hlt' : j < ids.length := by rw [HN.out]; exact hlt
          obtain ⟨ib, io, rfl, RI⟩ := HI.out.rowN (by omega)
          have c0 := keepc hB.out (RI j hlt)
          have SN := hid (usesOf_snoc (fun q => useT l q l.length) hlt')
          have hmem : Hid (ids[j]?.getD 0 ∈ ids) := by unfold Hid; rw [List.getElem?_eq_getElem hlt']; exact List.getElem_mem hlt'
          have ka : (0 : Int) ≤ (j : Int) := by omega
          have kb : (j : Int) < (n : Int) := by omega
          have kc : (n : Int) ≤ 9223372036854775807 := by omega
          clear RI
          obtain ⟨q, hq⟩ : ∃ q, ids[j]?.getD 0 = q := ⟨_, rfl⟩
          rw [hq] at c0 SN hmem
          have QJ := hid hq
          clear hq
          rename World => WR
          go_wp2_with fail
          go_loopw [53] (fun i w2 => ∃ k2 : Nat, k2 ≤ l.length ∧ i = .int .i64 (k2 : Int) ∧ Hid (Below WR.heap.size WR w2) ∧ Hid (w2.cell? ⟨WR.heap.size, 0, none⟩ = some (.int .i64 q)) ∧ Hid (w2.cell? ⟨WR.heap.size, 1, none⟩ = some (.int .i64 (cm (useT l q k2).1))) ∧ Hid (w2.cell? ⟨WR.heap.size, 2, none⟩ = some (.int .i64 (cm (useT l q k2).2))) ∧ Hid (∀ j, w2.frozen? ⟨WR.heap.size, j, none⟩ = false)) (fun i _ => l.length - (intOf i).toNat)
          case atStart => exact ⟨0, by omega, rfl, (Below.refl _ WR).alloc (Nat.le_refl _) _, by simp [Hid, go_sem], by simp [Hid, go_sem]; rfl, by simp [Hid, go_sem]; rfl, fun j => by simp [go_sem]⟩
          case round =>
            obtain ⟨k2, hk2, rfl, hBW, hq0, hq1, hq2, hfz⟩ := hrel
            have hsz := hBW.out.size
            have ltS := cell_lt hq0.out
            simp only at ltS
            by_cases hlt2 : k2 < l.length
            · obtain ⟨b, off, rfl, hbl, Rw⟩ := HQ.out.1.rowL (by omega)
              obtain ⟨d1, d2, d3, d4, d5, d6, d7, d8⟩ := Rw k2 hlt2
              have hBw2 := (VS.out.trans (hB.out.mono VS.out.size))
              replace hBw2 := hBw2.trans (hBW.out.mono hBw2.size)
              have c1 := keepc hBw2 d1
              have c2 := keepc hBw2 d2
              have c3 := keepc hBw2 d3
              have c4 := keepc hBw2 d4
              have c5 := keepc hBw2 d5
              have c6 := keepc hBw2 d6
              have c7 := keepc hBw2 d7
              have c8 := keepc hBw2 d8
              have k2a : (0 : Int) ≤ (k2 : Int) := by omega
              have k2b : (k2 : Int) < (l.length : Int) := by omega
              clear d1 d2 d3 d4 d5 d6 d7 d8 Rw hBw2
              have NX := hid (useT_cons l q k2)
              obtain ⟨nc, nm⟩ := PO.out q hk2
              have hme := GDA.out _ (la_mem hlt2)
              have hsl := gd_sl GB.out (la_mem hlt2)
              have hmx := gd_me GB.out (la_mem hlt2)
              generalize hx : la l k2 = x at *
              clear hx
              obtain ⟨x1, x2, x3, sa, sl, sc, x5, x6, x7, x8, co⟩ := x
              simp only at c1 c2 c3 c4 c5 c6 c7 c8 NX hme hsl hmx
              obtain ⟨C, hC⟩ : ∃ C, C = (useT l q k2).1 := ⟨_, rfl⟩
              obtain ⟨M, hM⟩ : ∃ M, M = (useT l q k2).2 := ⟨_, rfl⟩
              have NE : Hid (useT l q k2 = (C, M)) := by unfold Hid; rw [hC, hM]
              rw [NE.out] at NX
              rw [← hC] at hq1 nc
              rw [← hM] at hq2 nm
              clear hC hM
              have CA := hid (cm_add nc (Int.natCast_nonneg sl))
              have MA := hid (cm_add nm hme)
              obtain ⟨lc1, lc2⟩ := cm_le nc
              obtain ⟨lm1, lm2⟩ := cm_le nm
              have ab := (Below.refl wr.heap.size wr).alloc (Nat.le_refl _) (.cells #[.int .i64 x1, .int .i64 x2, .int .i64 x3, .slice sa sl sc, .int .i64 x5, .int .i64 x6, .int .i64 x7, .bool x8] 42)
              have B3 := hid (hBW.out.alloc hBW.out.size (.cells #[.int .i64 x1, .int .i64 x2, .int .i64 x3, .slice sa sl sc, .int .i64 x5, .int .i64 x6, .int .i64 x7, .bool x8] 42))
              have s0 := keepc ab hq0.out
              have s1 := keepc ab hq1.out
              have s2 := keepc ab hq2.out
              have G0 : Hid (∀ j, (wr.alloc (.cells #[.int .i64 x1, .int .i64 x2, .int .i64 x3, .slice sa sl sc, .int .i64 x5, .int .i64 x6, .int .i64 x7, .bool x8] 42)).frozen? ⟨WR.heap.size, j, none⟩ = false) := fun j => by rw [ab.frozen (p := ⟨WR.heap.size, j, none⟩) ltS]; exact hfz.out j
              have g1 := G0.out 1
              have g2 := G0.out 2
              have hne : WR.heap.size ≠ wr.heap.size := by omega
              clear ab hq0 hq1 hq2 hfz
              by_cases e : x2 = q
              · subst e
                rw [if_pos rfl] at NX
                generalize hcc : cm C = cC at *
                generalize hmm : cm M = cM at *
                go_upto_region 18 with fail
                clear c1 c2 c3 c4 c5 c6 c7 c8
                have y3 : (wr.alloc (.cells #[.int .i64 x1, .int .i64 x2, .int .i64 x3, .slice sa sl sc, .int .i64 x5, .int .i64 x6, .int .i64 x7, .bool x8] 42)).cell? ⟨wr.heap.size, 3, none⟩ = some (.slice sa sl sc) := by simp [go_sem]
                have y4 : (wr.alloc (.cells #[.int .i64 x1, .int .i64 x2, .int .i64 x3, .slice sa sl sc, .int .i64 x5, .int .i64 x6, .int .i64 x7, .bool x8] 42)).cell? ⟨wr.heap.size, 4, none⟩ = some (.int .i64 x5) := by simp [go_sem]
                have y1 : (wr.alloc (.cells #[.int .i64 x1, .int .i64 x2, .int .i64 x3, .slice sa sl sc, .int .i64 x5, .int .i64 x6, .int .i64 x7, .bool x8] 42)).cell? ⟨wr.heap.size, 1, none⟩ = some (.int .i64 x2) := by simp [go_sem]
                generalize (wr.alloc (.cells #[.int .i64 x1, .int .i64 x2, .int .i64 x3, .slice sa sl sc, .int .i64 x5, .int .i64 x6, .int .i64 x7, .bool x8] 42)) = w6 at *
                generalize hXB : wr.heap.size = XB at *
                go_wp2
                go_roundw
                case rel =>
                  refine ⟨k2 + 1, by omega, by go_num, (B3.out.setCell (p := ⟨WR.heap.size, 1, none⟩) (by simp) _).setCell (p := ⟨WR.heap.size, 2, none⟩) (by simp) _, ?_, ?_, ?_, fun j => by simp; exact G0.out j⟩
                  · simp [Hid, go_sem, s0]
                  · rw [NX.out]; simp only; rw [← CA.out, cm_min]; simp [Hid, go_sem, s1]
                  · rw [NX.out]; simp only; rw [← MA.out, cm_min]; simp [Hid, go_sem, s2]
                case measure => simp [intOf]; omega
              · rw [if_neg e] at NX
                have te : (x2 == q) = false := by simpa using e
                go_wp2
                go_roundw
                case rel =>
                  refine ⟨k2 + 1, by omega, by go_num, B3, s0, ?_, ?_, G0⟩
                  · rw [NX.out]; exact s1
                  · rw [NX.out]; exact s2
                case measure => simp [intOf]; omega
            · obtain rfl : k2 = l.length := by omega
              obtain ⟨nc, nm⟩ := PO.out q hk2
              have OC := hid (okv_cm nc nm)
              have OV := hid (OVR.out q)
              have SM : Hid (okv (useT l q l.length) = true → (cm (useT l q l.length).1, cm (useT l q l.length).2) = useT l q l.length) := fun h => by
                obtain ⟨o1, o2⟩ := okv_true h
                rw [cm_same o1, cm_same o2]
              generalize hU : useT l q l.length = U at *
              have HU := hid hU
              clear hU
              obtain ⟨u1, u2⟩ := U
              simp only at hq1 hq2 OC SM nc nm
              have s0 := hq0.out
              have s1 := hq1.out
              have s2 := hq2.out
              have GO := hid (fun W => good_any (cm u1) (cm u2) W)
              rw [OC.out] at GO
              generalize cm u1 = v1 at *
              generalize cm u2 = v2 at *
              cases ho : okv (u1, u2) with
              | false =>
                have ER := hid (OV.out ho)
                have UV := hid (UVN.out ER.out)
                rw [ho] at GO
                clear ho
                go_wp2_with fail
                refine (GO.out _).mono ?_
                rintro e w2 ⟨rfl, b2⟩
                have hBw2 := (VS.out.trans (hB.out.mono VS.out.size))
                replace hBw2 := hBw2.trans (hBW.out.mono hBw2.size)
                have BE := hid (hBw2.trans (b2.mono hBw2.size))
                clear hBw2 b2
                go_wp2_with fail
                go_ret2
                exact ⟨_, ret_u ER.out, by rw [UV.out]; exact OwnE.nil _ _ _ _ _, BE.out⟩
              | true =>
                have SV := hid (SM.out ho)
                rw [ho] at GO
                have HO := hid ho
                clear ho
                go_wp2_with fail
                refine (GO.out _).mono ?_
                rintro e w2 ⟨rfl, b2⟩
                have B2 := hid (hBW.out.trans (b2.mono hBW.out.size))
                replace s0 := keepc b2 s0
                replace s1 := keepc b2 s1
                replace s2 := keepc b2 s2
                have O2 := hid (hO.out.below B2.out)
                clear b2 GO hO
                have hbs := hid (hB.out.trans (B2.out.mono hB.out.size))
                go_wp2_with (at_builtin; refine push_ownE 24 44 _ 24 Us.cs_len Us.one Tryz.underlying24 infoUse rfl (by decide) w2 ⟨q, v1, v2⟩ rfl (.tmp 85) (.tmp 87) rfl w0.heap.size j u7 _ _ rfl rfl O2.out hbs.out.size (by simp [Act.eval]) (by omega) (by omega) ?_)
                intro v' w3 h1 h2 _
                have O1 := hid h1
                have hB1 := hid (hbs.out.trans h2)
                clear h1 h2
                go_wp2_with fail
                refine ⟨⟨j + 1, by omega, by go_num, ?_, ?_, hB1⟩, ?_⟩
                · unfold Hid
                  have e := SV.out
                  cases e
                  have e2 := SN.out
                  try simp only at e2
                  rw [e2]
                  exact O1.out
                · intro m hm
                  rcases Nat.lt_or_ge m j with h | h
                  · exact hall.out m h
                  · obtain rfl : m = j := by omega
                    rw [QJ.out, HU.out]; exact HO.out
                · simp [intOf]; omega
        · obtain rfl : j = n := by omega
          have ER := hid (FIN.out (fun q hq => by
            obtain ⟨m, hm, rfl⟩ := List.mem_iff_getElem.1 hq
            have := hall.out m (by rw [← HN.out]; exact hm)
            rw [List.getElem?_eq_getElem hm] at this
            exact this))
          have UV := hid (UVL.out ER.out)
          have TK : Hid (ids.take j = ids) := List.take_of_length_le (by rw [HN.out]; exact Nat.le_refl _)
          have OE := hO.out
          rw [TK.out] at OE
          have OF := hid (OE.weaken VS.out.size)
          clear OE
          go_wp2_with fail
          go_ret2
          refine ⟨_, ret_u ER.out, ?_, VS.out.trans (hB.out.mono VS.out.size)⟩
          rw [UV.out, usesOf_len, HN.out]
          exact OF.out
end Go.Proofs.YtdbkjcnanffibaaGreat

namespace Go.Proofs.YtdbkjcnanffibaaGreat
open Go.RowKit Go.Deep Go.Maps Go.Shelf
set_option linter.unusedVariables false
set_option linter.unusedSimpArgs false

set_option maxRecDepth 100000 in
set_option maxHeartbeats 4000000 in
theorem rlive_any (a : Option Addr) (len cap : Nat) (l : List Le) (w : World) (h : HoldsL w a len cap l) (hn : len * 80 ≤ 140737488355328) :
    Calls Tryz.prog 26 #[.slice a len cap] w fun e w' => ∃ v, e = .returned v ∧ OwnE 42 8 Le.cs w.heap.size w' v (lastL l).length (lastL l) ∧ Below w.heap.size w w' := by
  have HQ := hid h
  have HL := hid h.1.1
  have hcap := h.1.2.1
  have hcm := h.1.2.2.1
  clear h
  go_enter Tryz.func26, Tryz.ntmps26
  go_wp2_with fail
  go_loopw [3, 8] (fun s i wr => ∃ k : Nat, k ≤ len ∧ i = .int .i64 (k : Int) ∧ Hid (OwnE 42 8 Le.cs w.heap.size wr s (lastT l k).length (lastT l k)) ∧ Hid (Below w.heap.size w wr)) (fun s i _ => len - (intOf i).toNat)
  case atStart => exact ⟨0, by omega, rfl, OwnE.nil _ _ _ _ _, Below.refl _ _⟩
  case round =>
    obtain ⟨k, hk, rfl, hO, hB⟩ := hrel
    by_cases hlt : k < len
    · have hlt' : k < l.length := by rw [HL.out]; exact hlt
      obtain ⟨b, off, rfl, hbl, Rw⟩ := HQ.out.1.rowL (by omega)
      obtain ⟨d1, d2, d3, d4, d5, d6, d7, d8⟩ := Rw k hlt
      have c1 := keepc hB.out d1
      have c2 := keepc hB.out d2
      have c3 := keepc hB.out d3
      have c4 := keepc hB.out d4
      have c5 := keepc hB.out d5
      have c6 := keepc hB.out d6
      have c7 := keepc hB.out d7
      have c8 := keepc hB.out d8
      have ka : (0 : Int) ≤ (k : Int) := by omega
      have kb : (k : Int) < (len : Int) := by omega
      have NX : Hid (lastT l (k + 1) = if (la l k).st = true then lastT l k else lastT l k ++ [la l k]) := rfl
      have hle := lastT_le (l := l) k
      clear d1 d2 d3 d4 d5 d6 d7 d8 Rw
      generalize hx : la l k = x at *
      have HX := hid hx
      clear hx
      generalize hln : (lastT l k).length = ln at *
      have HLN := hid hln
      clear hln
      obtain ⟨x1, x2, x3, sa, sl, sc, x5, x6, x7, x8, co⟩ := x
      simp only at c1 c2 c3 c4 c5 c6 c7 c8 NX
      cases x8
      · have NX2 : Hid (lastT l (k + 1) = lastT l k ++ [⟨x1, x2, x3, sa, sl, sc, x5, x6, x7, false, co⟩]) := by unfold Hid; rw [NX.out]; simp
        have BX := hid (hB.out.alloc hB.out.size (.cells #[.int .i64 x1, .int .i64 x2, .int .i64 x3, .slice sa sl sc, .int .i64 x5, .int .i64 x6, .int .i64 x7, .bool false] 42))
        have OX := hid (hO.out.below ((Below.refl wr.heap.size wr).alloc (Nat.le_refl _) (.cells #[.int .i64 x1, .int .i64 x2, .int .i64 x3, .slice sa sl sc, .int .i64 x5, .int .i64 x6, .int .i64 x7, .bool false] 42)))
        clear NX hO
        go_wp2_with (at_builtin; refine push_ownE 23 42 _ 80 Le.cs_len Le.one Tryz.underlying23 infoLe rfl (by decide) (wr.alloc (.cells #[.int .i64 x1, .int .i64 x2, .int .i64 x3, .slice sa sl sc, .int .i64 x5, .int .i64 x6, .int .i64 x7, .bool false] 42)) (⟨x1, x2, x3, sa, sl, sc, x5, x6, x7, false, co⟩ : Le) rfl (.tmp 15) (.tmp 17) rfl w.heap.size ln u3 _ _ rfl rfl OX.out BX.out.size (by simp [Act.eval]) (by omega) (by omega) ?_)
        intro v' w1 h1 h2 _
        have O1 := hid h1
        have hB1 := hid (BX.out.trans h2)
        clear h1 h2
        go_wp2_with fail
        refine ⟨⟨k + 1, by omega, by go_num, by unfold Hid; rw [NX2.out, List.length_append, HLN.out]; exact O1.out, hB1⟩, ?_⟩
        simp [intOf]; omega
      · have NX2 : Hid (lastT l (k + 1) = lastT l k) := by unfold Hid; rw [NX.out]; simp
        have BX := hid (hB.out.alloc hB.out.size (.cells #[.int .i64 x1, .int .i64 x2, .int .i64 x3, .slice sa sl sc, .int .i64 x5, .int .i64 x6, .int .i64 x7, .bool true] 42))
        have OX := hid (hO.out.below ((Below.refl wr.heap.size wr).alloc (Nat.le_refl _) (.cells #[.int .i64 x1, .int .i64 x2, .int .i64 x3, .slice sa sl sc, .int .i64 x5, .int .i64 x6, .int .i64 x7, .bool true] 42)))
        clear NX hO
        go_wp2_with fail
        refine ⟨⟨k + 1, by omega, by go_num, by unfold Hid; rw [NX2.out, HLN.out]; exact OX.out, BX⟩, ?_⟩
        simp [intOf]; omega
    · obtain rfl : k = len := by omega
      have O : Hid (OwnE 42 8 Le.cs w.heap.size wr u3 (lastL l).length (lastL l)) := by unfold Hid lastL; rw [HL.out]; exact hO.out
      clear hO
      go_wp2_with fail
      go_ret
      exact ⟨_, rfl, O.out, hB.out⟩

/-- The sums of queues by leases. -/
def vecsL (l : List Qu) (ls : List Le) : List (Int × Int) := if readE l ls = 0 then vecsTo l (useV ls) l.length else []
theorem vecsL_no {l : List Qu} {ls : List Le} (h : readE l ls ≠ 0) : vecsL l ls = [] := by unfold vecsL; rw [if_neg h]
theorem vecsL_sums {l : List Qu} {ls : List Le} (h1 : chkE l = 0) (h2 : useErr ls = 0) : readE l ls = sumsE l (uvL ls) ∧ vecsL l ls = sumsR l (uvL ls) := by
  have e : readE l ls = sumsE l (useV ls) := by unfold readE; rw [if_pos h1, if_pos h2]
  rw [uvL_yes h2]
  refine ⟨e, ?_⟩
  unfold vecsL sumsR
  rw [e]

set_option maxRecDepth 100000 in
set_option maxHeartbeats 2000000 in
theorem rsums8_any (a : Option Addr) (len cap : Nat) (l : List Qu) (b : Option Addr) (ln cp : Nat) (ls : List Le) (w : World) (h : HoldsQ w a len cap l) (hl : HoldsL w b ln cp ls) (hlo : ∀ x ∈ ls, x.okB) (hn : ln * 64 ≤ 140737488355328) :
    Calls Tryz.prog 15 #[.slice a len cap, .slice b ln cp] w fun e w' => ∃ v, e = .returned (.tuple #[v, .int .i64 (readE l ls)]) ∧ OwnV w.heap.size w' v (vecsL l ls).length (vecsL l ls) ∧ Below w.heap.size w w' := by
  have CK := hid (rcheckq_any a len cap l w h)
  have RU := hid (fun W (hW : Below w.heap.size w W) => ruses_any b ln cp ls W (hl.below hW) hlo hn)
  have RS := hid (fun ub n uc W (hW : Below w.heap.size w W) (hu : HoldsU W ub n uc (uvL ls)) => rsums_any a len cap l ub n uc (uvL ls) W (h.below hW) hu)
  clear h hl hlo
  by_cases e1 : chkE l = 0
  case neg =>
    have E : Hid (readE l ls = chkE l) := by unfold Hid readE; rw [if_neg e1]
    have V := hid (vecsL_no (l := l) (ls := ls) (by rw [E.out]; exact e1))
    have t : (chkE l != 0) = true := by simpa using e1
    clear e1
    generalize chkE l = CE at *
    go_enter Tryz.func15, Tryz.ntmps15
    go_wp2_with fail
    refine CK.out.mono ?_
    rintro e w1 ⟨rfl, b1⟩
    go_wp2_with fail
    go_ret2
    exact ⟨_, ret_u E.out, by rw [V.out]; exact OwnE.nil _ _ _ _ _, b1⟩
  by_cases e2 : useErr ls = 0
  case neg =>
    have E : Hid (readE l ls = useErr ls) := by unfold Hid readE; rw [if_pos e1, if_neg e2]
    have V := hid (vecsL_no (l := l) (ls := ls) (by rw [E.out]; exact e2))
    have t : (useErr ls != 0) = true := by simpa using e2
    rw [e1] at CK
    clear e1 e2
    generalize useErr ls = UE at *
    go_enter Tryz.func15, Tryz.ntmps15
    go_wp2_with fail
    refine CK.out.mono ?_
    rintro e w1 ⟨rfl, b1⟩
    have B1 := hid b1
    clear b1
    go_wp2_with fail
    refine (RU.out _ B1.out).mono ?_
    rintro e w2 ⟨v2, rfl, o2, b2⟩
    have B2 := hid (B1.out.trans (b2.mono B1.out.size))
    clear o2 b2
    go_wp2_with fail
    go_ret2
    exact ⟨_, ret_u E.out, by rw [V.out]; exact OwnE.nil _ _ _ _ _, B2.out⟩
  have EV := hid (vecsL_sums e1 e2)
  rw [e1] at CK
  rw [e2] at RU
  clear e1 e2
  go_enter Tryz.func15, Tryz.ntmps15
  go_wp2_with fail
  refine CK.out.mono ?_
  rintro e w1 ⟨rfl, b1⟩
  have B1 := hid b1
  clear b1
  go_wp2_with fail
  refine (RU.out _ B1.out).mono ?_
  rintro e w2 ⟨v2, rfl, o2, b2⟩
  have B2 := hid (B1.out.trans (b2.mono B1.out.size))
  obtain ⟨ua_, uc_, rfl⟩ := o2.form
  have S2 := hid (RS.out _ _ _ _ B2.out (o2.holds Us.cs_len))
  clear o2 b2 RU RS CK
  generalize sumsE l (uvL ls) = SE at *
  generalize sumsR l (uvL ls) = SR at *
  go_wp2_with fail
  refine S2.out.mono ?_
  rintro e w3 ⟨v3, rfl, o3, b3⟩
  have B3 := hid (B2.out.trans (b3.mono B2.out.size))
  have O3 := hid (o3.weaken B2.out.size)
  clear o3 b3 S2
  go_wp2_with fail
  go_ret2
  exact ⟨_, ret_u EV.out.1, by rw [EV.out.2]; exact O3.out, B3.out⟩

set_option maxHeartbeats 2000000 in
theorem ryields_any (q1 q2 q3 q4 q5 q6 q7 v1 v2 x1 x2 x3 x5 x6 x7 : Int) (sa : Option Addr) (sl sc : Nat) (x8 : Bool) (w : World) (hv : okv (v1, v2) = true) (hs : sl ≤ 64) (hm : 0 ≤ x5 ∧ x5 ≤ 1099511627776) :
    Calls Tryz.prog 27 #[.agg #[.int .i64 q1, .int .i64 q2, .int .i64 q3, .int .i64 q4, .int .i64 q5, .int .i64 q6, .int .i64 q7], .agg #[.int .i64 v1, .int .i64 v2], .agg #[.int .i64 x1, .int .i64 x2, .int .i64 x3, .slice sa sl sc, .int .i64 x5, .int .i64 x6, .int .i64 x7, .bool x8]] w fun e w' => e = .returned (.bool (fitB q6 q7 (v1 - (sl : Int)) (v2 - x5))) ∧ Below w.heap.size w w' := by
  obtain ⟨⟨a1, a2⟩, a3, a4⟩ := okv_true hv
  simp only at a1 a2 a3 a4
  have FI := hid (fun W => rfits_any q6 q7 (v1 - (sl : Int)) (v2 - x5) W)
  have k1 : IntKind.i64.wrap (v1 - (sl : Int)) = v1 - (sl : Int) := by rw [IntKind.wrap_i64]; omega
  have k2 : IntKind.i64.wrap (v2 - x5) = v2 - x5 := by rw [IntKind.wrap_i64]; omega
  generalize fitB q6 q7 (v1 - (sl : Int)) (v2 - x5) = FB at *
  have B0 : Hid (Below w.heap.size w (((w.alloc (.cells #[.int .i64 q1, .int .i64 q2, .int .i64 q3, .int .i64 q4, .int .i64 q5, .int .i64 q6, .int .i64 q7] 38)).alloc (.cells #[.int .i64 v1, .int .i64 v2] 33)).alloc (.cells #[.int .i64 x1, .int .i64 x2, .int .i64 x3, .slice sa sl sc, .int .i64 x5, .int .i64 x6, .int .i64 x7, .bool x8] 42))) := (((Below.refl _ w).alloc (Nat.le_refl _) _).alloc (by simp) _).alloc (by simp; omega) _
  go_enter Tryz.func27, Tryz.ntmps27
  go_wp2_with fail
  with_reducible refine (FI.out _).mono ?_
  rintro e y1 ⟨rfl, b1⟩
  have B1 := hid (B0.out.trans (b1.mono B0.out.size))
  clear b1
  go_wp2_with fail
  go_ret
  exact ⟨rfl, B1.out⟩
end Go.Proofs.YtdbkjcnanffibaaGreat

namespace Go.Proofs.YtdbkjcnanffibaaGreat
open Go.RowKit Go.Shelf
set_option linter.unusedVariables false
set_option linter.unusedSimpArgs false

theorem dom_num {c m p q : Int} (oc : okp c) (om : okp m) (op : okp p) (oq : okp q) : (dom c m p q).1 ≤ 1099511627776 := by
  have z : ∀ a b : Int, okp a → okp b → (shr a b).1 ≤ 1099511627776 := fun a b ha hb => by
    unfold okp at ha hb
    unfold shr; split
    · exact ha.2
    · split <;> decide
  unfold dom; split
  · exact z _ _ om oq
  · exact z _ _ oc op
theorem prod_bd {a b : Int} (a0 : 0 ≤ a) (a1 : a ≤ 1099511627776) (b0 : 0 ≤ b) (b1 : b ≤ 1099511627776) : 0 ≤ a * b ∧ a * b ≤ 1208925819614629174706176 := by
  refine ⟨Int.mul_nonneg a0 b0, ?_⟩
  have := Int.mul_le_mul a1 b1 b0 (by omega)
  exact Int.le_trans this (by decide)

theorem rless_any (c m x d k y p q : Int) (h : leok c m x d k y p q = true) (w : World) :
    Calls Tryz.prog 28 #[.agg #[.int .i64 c, .int .i64 m], .int .i64 x, .agg #[.int .i64 d, .int .i64 k], .int .i64 y, .agg #[.int .i64 p, .int .i64 q]] w fun e w' => e = .returned (.int .i64 (lev c m x d k y p q)) ∧ Below w.heap.size w w' := by
  obtain ⟨hok, hw⟩ : [(c, m), (d, k), (p, q)].all okv = true ∧ (okw x && okw y) = true := by unfold leok at h; simpa using h
  obtain ⟨o1, o2, o3⟩ : okv (c, m) = true ∧ okv (d, k) = true ∧ okv (p, q) = true := by simpa using hok
  obtain ⟨a1, a2⟩ := okv_true o1
  obtain ⟨a3, a4⟩ := okv_true o2
  obtain ⟨a5, a6⟩ := okv_true o3
  have hx : 1 ≤ x ∧ x ≤ 1048576 := by have : okw x = true := by simp at hw; exact hw.1
                                      simpa [okw] using this
  have hy : 1 ≤ y ∧ y ≤ 1048576 := by have : okw y = true := by simp at hw; exact hw.2
                                      simpa [okw] using this
  have f1 := dom_fr ⟨a1, a5⟩ ⟨a2, a6⟩
  have f2 := dom_fr ⟨a3, a5⟩ ⟨a4, a6⟩
  have u1 := dom_num a1 a2 a5 a6
  have u2 := dom_num a3 a4 a5 a6
  have SA := hid (fun w => rshare_any c m p q a1 a2 a5 a6 w)
  have SB := hid (fun w => rshare_any d k p q a3 a4 a5 a6 w)
  have E : lev c m x d k y p q = if (dom c m p q).2 = 0 ∨ (dom d k p q).2 = 0 then ord (dom d k p q).2 (dom c m p q).2 else ord ((dom c m p q).1 * (dom d k p q).2 * y) ((dom d k p q).1 * (dom c m p q).2 * x) := by
    have n1 := f1.1.2.1
    have n2 := f2.1.2.1
    unfold lev fc
    simp only
    generalize dom c m p q = F at *
    generalize dom d k p q = G at *
    obtain ⟨F0, F1⟩ := F; obtain ⟨G0, G1⟩ := G
    simp only at *
    by_cases hF : F1 = 0
    · subst hF
      rw [if_pos (Or.inl (Int.zero_mul x)), if_pos (Or.inl rfl), Int.zero_mul]
      by_cases hG : G1 = 0
      · subst hG; rw [Int.zero_mul]
      · have : 0 < G1 * y := Int.mul_pos (by omega) (by omega)
        unfold ord; rw [if_neg (by omega), if_pos (by omega), if_neg (by omega), if_pos (by omega)]
    · have pF : 0 < F1 * x := Int.mul_pos (by omega) (by omega)
      by_cases hG : G1 = 0
      · subst hG
        rw [if_pos (Or.inr (Int.zero_mul y)), if_pos (Or.inr rfl), Int.zero_mul]
        unfold ord; rw [if_pos (by omega), if_pos (by omega)]
      · have pG : 0 < G1 * y := Int.mul_pos (by omega) (by omega)
        rw [if_neg (by omega), if_neg (by omega), Int.mul_assoc, Int.mul_assoc]
  rw [E]
  have b1 := prod_bd f1.2.1 u1 f2.1.2.1 f2.2.2
  have b2 := prod_bd f2.2.1 u2 f1.1.2.1 f1.2.2
  have i1 : I64 (dom c m p q).2 := ⟨Int.le_trans (by decide) f1.1.2.1, f1.1.2.2⟩
  have i2 : I64 (dom d k p q).2 := ⟨Int.le_trans (by decide) f2.1.2.1, f2.1.2.2⟩
  exact rless_core c m x d k y p q _ _ _ _ _ _ w SA SB
    (hid (fun w => wtimes_any _ _ y _ f1.1.1 i2 rfl b1.1 b1.2 (by omega) (by omega) w))
    (hid (fun w => wtimes_any _ _ x _ f2.1.1 i1 rfl b2.1 b2.2 (by omega) (by omega) w)) f1.1.2.1 f2.1.2.1

theorem chks3_ok {a b c : Int × Int} (h : [a, b, c].all okv = true) : chks [a, b, c] = 0 := by unfold chks; rw [if_pos h]
theorem chks3_no {a b c : Int × Int} (h : [a, b, c].all okv = false) : chks [a, b, c] = 1 := by unfold chks; rw [h]; rfl

end Go.Proofs.YtdbkjcnanffibaaGreat

namespace Go.Proofs.YtdbkjcnanffibaaGreat
open Go.RowKit Go.Deep Go.Maps Go.Shelf
set_option linter.unusedVariables false
set_option linter.unusedSimpArgs false

theorem chs_eq {l : List Qu} {ls : List Le} {p q : Int} (hok : ∀ x ∈ ls, x.okB) (h : readE l ls = 0) (hc : chk p q = 0) :
    ((docT l (useV (lastL ls)) (lastL ls) p q l.length).1 < 0 ∧ chsE l ls p q = 8 ∧ chsT l ls p q = 0) ∨ (¬ (docT l (useV (lastL ls)) (lastL ls) p q l.length).1 < 0 ∧ chsE l ls p q = 0 ∧ chsT l ls p q = (docT l (useV (lastL ls)) (lastL ls) p q l.length).2) := by
  have hsub : (lastL ls).Sublist ls := by rw [lastL_eq]; exact List.filter_sublist
  have hm := readE_part hok hsub h
  have hokm : ∀ x ∈ lastL ls, x.okB := fun x hx => hok x (hsub.subset hx)
  have e := choose_eq hokm hm hc
  unfold chsE chsT
  rw [if_pos h, if_pos hc, if_pos (show readE l ls = 0 ∧ chk p q = 0 from ⟨h, hc⟩)]
  have eb : bestL l ls p q = greT (fun id => qfT l id l.length) (fun i => useT (lastL ls) i (lastL ls).length) p q (lastL ls) (lastL ls).length := rfl
  rw [← eb] at e
  cases hb : bestL l ls p q with
  | none => rw [hb] at e; rw [e]; exact .inl ⟨by decide, rfl, rfl⟩
  | some b =>
    rw [hb] at e
    have hF := (chkE_ok.1 (readE_parts h).1).2.1
    have hbm := greT_mem (Nat.le_refl _) (eb.symm.trans hb)
    have h2 := (read_leaf hokm hm hbm).1
    have hp : pl l b.qu < l.length := of_decide_eq_true h2
    have h0 := hF.id_nonneg hp
    rw [pl_id hp] at h0
    rw [e]
    exact .inr ⟨by simp only [Option.map_some, Option.getD_some]; omega, rfl, rfl⟩

set_option maxRecDepth 100000 in
set_option maxHeartbeats 8000000 in
theorem rchoose_good (lb lo len cap : Nat) (l : List Qu) (b : Option Addr) (ln cp : Nat) (ls : List Le) (p1 p2 : Int) (w : World) (h : HoldsQ w (some ⟨lb, lo, none⟩) len cap l) (hok : ∀ q ∈ l, q.ok) (hl : HoldsL w b ln cp ls) (hlo : ∀ x ∈ ls, x.okB) (hn : ln * 80 ≤ 140737488355328) (hR : readE l ls = 0) (hP : chk p1 p2 = 0) :
    Calls Tryz.prog 10 #[.slice (some ⟨lb, lo, none⟩) len cap, .slice b ln cp, .agg #[.int .i64 p1, .int .i64 p2]] w fun e w' => e = .returned (.tuple #[.int .i64 (chsT l ls p1 p2), .int .i64 (chsE l ls p1 p2)]) ∧ Below w.heap.size w w' := by
  have hC := (readE_parts hR).1
  have hG := chkE_ok.1 hC
  have HLl := hid h.1
  have lcap := h.2.1
  have lcm := h.2.2.1
  have hle : len ≤ 64 := by rw [← HLl.out]; exact hG.1
  have hpos : 0 < len := by rw [← HLl.out]; exact hG.2.1.1
  have HF := hid hG.2.1
  have HH := hid h
  have HR : Hid (RowQ w lb lo l) := by
    obtain ⟨b', o', e, hR⟩ := h.row hpos
    cases e; exact hR
  have hsub : (lastL ls).Sublist ls := by rw [lastL_eq]; exact List.filter_sublist
  have hm := readE_part hlo hsub hR
  have hlm : (lastL ls).length ≤ ln := by rw [← hl.1.1]; exact hsub.length_le
  have S1 := hid (fun W (hW : Below w.heap.size w W) => rsums8_any (some ⟨lb, lo, none⟩) len cap l b ln cp ls W (h.below hW) (hl.below hW) hlo (by omega))
  have S2 := hid (fun W (hW : Below w.heap.size w W) mb mc (hmm : HoldsE 8 Le.cs W mb (lastL ls).length mc (lastL ls)) => rsums8_any (some ⟨lb, lo, none⟩) len cap l mb (lastL ls).length mc (lastL ls) W (h.below hW) ⟨hmm, fun x hx => (hl.2 x (lastL_mem hx)).below hW⟩ (fun x hx => hlo x (hsub.subset hx)) (by omega))
  rw [hR] at S1
  have hvl : vecsL l (lastL ls) = vecsTo l (useV (lastL ls)) len := by unfold vecsL; rw [if_pos hm, HLl.out]
  rw [hm, hvl, vecsTo_len] at S2
  have LV := hid (fun W (hW : Below w.heap.size w W) => rlive_any b ln cp ls W (hl.below hW) hn)
  have GO := hid (fun W => good_any p1 p2 W)
  have hgo : okv (p1, p2) = true := by
    unfold chk at hP
    split at hP
    · rename_i h; unfold okv; exact decide_eq_true h
    · cases hP
  rw [hgo] at GO
  have CE := hid (chs_eq hlo hR hP)
  have LOK := hid (fun k (hk : k < l.length) => less_ok (m := lastL ls) hm hP hk)
  have WT := hid (fun k (hk : k < l.length) => (arg_at hG.2.2.1 (show qa l k ∈ l from qa_mem hk)).1)
  have INV := hid (fun k (hk : k ≤ l.length) => docT_inv (m := lastL ls) (p := p1) (q := p2) (us := useV (lastL ls)) HF.out (fun a b ha hb => lev_turn _ _ _ _ _ _ _ _) (fun a b c ha hb hcc g1 g2 => lev_trans (less_ok hm hP ha) (less_ok hm hP hb) (less_ok hm hP hcc) g1 g2) hk)
  have GD := hid (fun x (hx : x ∈ lastL ls) => (And.intro (gd_sl (useErr_gd (readE_parts hm).2.1).1 hx) (And.intro (gd_pos (useErr_gd (readE_parts hm).2.1).1 x hx) (gd_me (useErr_gd (readE_parts hm).2.1).1 hx))))
  have QOK := hid hok
  have B0 : Hid (Below w.heap.size w (w.alloc (.cells #[.int .i64 p1, .int .i64 p2] 33))) := (Below.refl _ w).alloc (Nat.le_refl _) _
  have m0 : (w.alloc (.cells #[.int .i64 p1, .int .i64 p2] 33)).cell? ⟨w.heap.size, 0, none⟩ = some (.int .i64 p1) := by simp [go_sem]
  have m1 : (w.alloc (.cells #[.int .i64 p1, .int .i64 p2] 33)).cell? ⟨w.heap.size, 1, none⟩ = some (.int .i64 p2) := by simp [go_sem]
  clear h hok hl hlo hR hP hC hG hm hvl hgo hsub
  generalize hml : lastL ls = m at *
  clear hml
  generalize hus : useV m = us at *
  clear hus
  go_enter Tryz.func10, Tryz.ntmps10
  go_wp2_with fail
  with_reducible refine (S1.out _ B0.out).mono ?_
  rintro e w1 ⟨v1, rfl, o1, b1⟩
  have B1 := hid (B0.out.trans (b1.mono B0.out.size))
  replace m0 := keepc b1 m0
  replace m1 := keepc b1 m1
  clear o1 b1 S1
  go_wp2_with fail
  with_reducible refine (GO.out _).mono ?_
  rintro e w2 ⟨rfl, b2⟩
  have B2 := hid (B1.out.trans (b2.mono B1.out.size))
  replace m0 := keepc b2 m0
  replace m1 := keepc b2 m1
  clear b2 GO
  go_wp2_with fail
  with_reducible refine (LV.out _ B2.out).mono ?_
  rintro e w3 ⟨v3, rfl, o3, b3⟩
  have B3 := hid (B2.out.trans (b3.mono B2.out.size))
  replace m0 := keepc b3 m0
  replace m1 := keepc b3 m1
  obtain ⟨mb, mc, rfl⟩ := o3.form
  have H3 := hid (o3.holds Le.cs_len)
  have S3 := hid (S2.out _ B3.out _ _ H3.out)
  clear o3 b3 LV S2
  go_wp2_with fail
  with_reducible refine S3.out.mono ?_
  rintro e w4 ⟨v4, rfl, o4, b4⟩
  have B4 := hid (B3.out.trans (b4.mono B3.out.size))
  have H4 := hid (H3.out.below b4)
  replace m0 := keepc b4 m0
  replace m1 := keepc b4 m1
  have MM := hid (And.intro m0 m1)
  obtain ⟨sa0, sc, rfl⟩ := o4.form
  have HV := hid (o4.holds encV_len)
  obtain ⟨sb, so, rfl, RV⟩ := HV.out.rowV hpos
  clear o4 b4 S3 H3 m0 m1 RV
  generalize hmn : m.length = mn at *
  have HMN := hid hmn
  clear hmn
  go_wp2_with fail
  go_loopw [13, 14, 44] (fun s t i wr => ∃ k : Nat, k ≤ len ∧ i = .int .i64 (k : Int) ∧ s = .int .i64 (docT l us m p1 p2 k).1 ∧ t = .int .i64 (docT l us m p1 p2 k).2 ∧ Hid (Below w4.heap.size w4 wr)) (fun s t i _ => len - (intOf i).toNat)
  case atStart => exact ⟨0, by omega, rfl, rfl, rfl, Below.refl _ _⟩
  case round =>
    obtain ⟨k, hk, rfl, rfl, rfl, hB⟩ := hrel
    by_cases hlt : k < len
    · have hlt' : k < l.length := by rw [HLl.out]; exact hlt
      have BT := hid (B4.out.trans (hB.out.mono B4.out.size))
      obtain ⟨c0, c1, c2, c3, c4, c5, c6⟩ := (HR.out.below BT.out).2 k hlt'
      have KPL := hid (HF.out.pl hlt')
      have CS1 := hid (fun W (hW : Below w.heap.size w W) (hW4 : Below w4.heap.size w4 W) => rsum_any (some ⟨lb, lo, none⟩) len cap l (some ⟨sb, so, none⟩) sc (vecsTo l us len) (qa l k).id W (HH.out.below hW) (HV.out.below hW4) (by rw [KPL.out]; exact hlt))
      rw [KPL.out, va_vecs hlt] at CS1
      have LO := LOK.out k hlt'
      have WK := WT.out k hlt'
      have DT : Hid (docT l us m p1 p2 (k + 1) = match lastC (yB l us k) m mn with | none => docT l us m p1 p2 k | some t => if (docT l us m p1 p2 k).1 < 0 ∨ 0 < lessK l us p1 p2 k (pl l (docT l us m p1 p2 k).1) then ((qa l k).id, t) else docT l us m p1 p2 k) := by unfold Hid; rw [← HMN.out]; rfl
      have IV := hid (INV.out k (by omega))
      have LSK : Hid (∀ j, lessK l us p1 p2 k j = lev (vecAt l us k).1 (vecAt l us k).2 (qa l k).wt (vecAt l us j).1 (vecAt l us j).2 (qa l j).wt p1 p2) := fun j => rfl
      have YB : Hid (∀ x : Le, yB l us k x = (decide (x.qu = (qa l k).id) && fitB (qa l k).mc (qa l k).mm ((vecAt l us k).1 - (x.sl : Int)) ((vecAt l us k).2 - x.me))) := fun x => rfl
      have ka : (0 : Int) ≤ (k : Int) := by omega
      have kb : (k : Int) < (len : Int) := by omega
      generalize hq : qa l k = q at *
      obtain ⟨q1, q2, q3, q4, q5, q6, q7⟩ := q
      simp only at c0 c1 c2 c3 c4 c5 c6 CS1 LO WK DT LSK YB
      generalize hVA : vecAt l us k = VA at *
      obtain ⟨A1, A2⟩ := VA
      simp only at LO LSK YB
      have HQ := hid hq
      have HVA := hid hVA
      clear hq hVA
      generalize hBE : (docT l us m p1 p2 k).1 = BE at *
      generalize hTE : (docT l us m p1 p2 k).2 = TE at *
      have HBE := hid hBE
      have HTE := hid hTE
      clear hBE hTE
      have BA := hid (hB.out.alloc hB.out.size (.cells #[.int .i64 q1, .int .i64 q2, .int .i64 q3, .int .i64 q4, .int .i64 q5, .int .i64 q6, .int .i64 q7] 38))
      have BAT := hid (BT.out.alloc BT.out.size (.cells #[.int .i64 q1, .int .i64 q2, .int .i64 q3, .int .i64 q4, .int .i64 q5, .int .i64 q6, .int .i64 q7] 38))
      have z0 : (wr.alloc (.cells #[.int .i64 q1, .int .i64 q2, .int .i64 q3, .int .i64 q4, .int .i64 q5, .int .i64 q6, .int .i64 q7] 38)).cell? ⟨wr.heap.size, 0, none⟩ = some (.int .i64 q1) := by simp [go_sem]
      have z1 : (wr.alloc (.cells #[.int .i64 q1, .int .i64 q2, .int .i64 q3, .int .i64 q4, .int .i64 q5, .int .i64 q6, .int .i64 q7] 38)).cell? ⟨wr.heap.size, 1, none⟩ = some (.int .i64 q2) := by simp [go_sem]
      have z2 : (wr.alloc (.cells #[.int .i64 q1, .int .i64 q2, .int .i64 q3, .int .i64 q4, .int .i64 q5, .int .i64 q6, .int .i64 q7] 38)).cell? ⟨wr.heap.size, 2, none⟩ = some (.int .i64 q3) := by simp [go_sem]
      have z3 : (wr.alloc (.cells #[.int .i64 q1, .int .i64 q2, .int .i64 q3, .int .i64 q4, .int .i64 q5, .int .i64 q6, .int .i64 q7] 38)).cell? ⟨wr.heap.size, 3, none⟩ = some (.int .i64 q4) := by simp [go_sem]
      have z4 : (wr.alloc (.cells #[.int .i64 q1, .int .i64 q2, .int .i64 q3, .int .i64 q4, .int .i64 q5, .int .i64 q6, .int .i64 q7] 38)).cell? ⟨wr.heap.size, 4, none⟩ = some (.int .i64 q5) := by simp [go_sem]
      have z5 : (wr.alloc (.cells #[.int .i64 q1, .int .i64 q2, .int .i64 q3, .int .i64 q4, .int .i64 q5, .int .i64 q6, .int .i64 q7] 38)).cell? ⟨wr.heap.size, 5, none⟩ = some (.int .i64 q6) := by simp [go_sem]
      have z6 : (wr.alloc (.cells #[.int .i64 q1, .int .i64 q2, .int .i64 q3, .int .i64 q4, .int .i64 q5, .int .i64 q6, .int .i64 q7] 38)).cell? ⟨wr.heap.size, 6, none⟩ = some (.int .i64 q7) := by simp [go_sem]
      go_wp2_with fail
      clear c0 c1 c2 c3 c4 c5 c6
      generalize (wr.alloc (.cells #[.int .i64 q1, .int .i64 q2, .int .i64 q3, .int .i64 q4, .int .i64 q5, .int .i64 q6, .int .i64 q7] 38)) = w6 at *
      generalize wr.heap.size = QK at *
      with_reducible refine (CS1.out w6 BAT.out BA.out).mono ?_
      rintro e w7 ⟨rfl, b7⟩
      have bb := b7.trans (((Below.refl w7.heap.size w7).alloc (Nat.le_refl _) (.cells #[.int .i64 A1, .int .i64 A2] 33)).mono b7.size)
      have B7 := hid (BA.out.trans (bb.mono BA.out.size))
      have B7T := hid (BAT.out.trans (bb.mono BAT.out.size))
      have ZZ := hid (And.intro (keepc bb z0) (And.intro (keepc bb z1) (And.intro (keepc bb z2) (And.intro (keepc bb z3) (And.intro (keepc bb z4) (And.intro (keepc bb z5) (keepc bb z6)))))))
      have v0 : (w7.alloc (.cells #[.int .i64 A1, .int .i64 A2] 33)).cell? ⟨w7.heap.size, 0, none⟩ = some (.int .i64 A1) := by simp [go_sem]
      have v1_ : (w7.alloc (.cells #[.int .i64 A1, .int .i64 A2] 33)).cell? ⟨w7.heap.size, 1, none⟩ = some (.int .i64 A2) := by simp [go_sem]
      have VV := hid (And.intro v0 v1_)
      clear z0 z1 z2 z3 z4 z5 z6 v0 v1_ b7 bb CS1
      go_wp2_with fail
      generalize hw8 : (w7.alloc (.cells #[.int .i64 A1, .int .i64 A2] 33)) = w8 at *
      clear hw8
      generalize hVK : w7.heap.size = VK at *
      clear hVK
      go_loopw [18, 19, 55] (fun s t i wr => ∃ j : Nat, j ≤ mn ∧ i = .int .i64 (j : Int) ∧ s = .int .i64 ((lastC (yB l us k) m j).getD 0) ∧ t = .bool (lastC (yB l us k) m j).isSome ∧ Hid (Below w8.heap.size w8 wr)) (fun s t i _ => mn - (intOf i).toNat)
      case atStart => exact ⟨0, by omega, rfl, rfl, rfl, Below.refl _ _⟩
      case round =>
        obtain ⟨j, hj, rfl, rfl, rfl, hB2⟩ := hrel
        have T8 := hid (B7T.out.trans (hB2.out.mono B7T.out.size))
        have F8 := hid (B7.out.trans (hB2.out.mono B7.out.size))
        by_cases hlt2 : j < mn
        · have hlt2' : j < m.length := by rw [HMN.out]; exact hlt2
          obtain ⟨ab, ao, rfl, hbl, Rw⟩ := H4.out.rowL (by omega)
          obtain ⟨d1, d2, d3, d4, d5, d6, d7, d8⟩ := Rw j hlt2
          have c1 := keepc F8.out d1
          have c2 := keepc F8.out d2
          have c3 := keepc F8.out d3
          have c4 := keepc F8.out d4
          have c5 := keepc F8.out d5
          have c6 := keepc F8.out d6
          have c7 := keepc F8.out d7
          have c8 := keepc F8.out d8
          have ja : (0 : Int) ≤ (j : Int) := by omega
          have jb : (j : Int) < (mn : Int) := by omega
          have mcap := H4.out.2.1
          have mcm := H4.out.2.2.1
          have LC : Hid (lastC (yB l us k) m (j + 1) = if yB l us k (la m j) = true then (match lastC (yB l us k) m j with | none => some (la m j).ta | some t => if t < (la m j).ta then some (la m j).ta else some t) else lastC (yB l us k) m j) := rfl
          obtain ⟨g1, g2, g3⟩ := GD.out _ (la_mem hlt2')
          rw [YB.out] at LC
          clear d1 d2 d3 d4 d5 d6 d7 d8 Rw
          generalize hx : la m j = x at *
          clear hx
          obtain ⟨x1, x2, x3, sa, sl, sc', x5, x6, x7, x8, co⟩ := x
          simp only at c1 c2 c3 c4 c5 c6 c7 c8 LC g1 g2 g3
          have YI := hid (fun W => ryields_any q1 q2 q3 q4 q5 q6 q7 A1 A2 x1 x2 x3 x5 x6 x7 sa sl sc' x8 W LO.1 g1 ⟨g2, g3⟩)
          generalize fitB q6 q7 (A1 - (sl : Int)) (A2 - x5) = FB at *
          generalize hlc : lastC (yB l us k) m j = lc at *
          clear hlc
          have BX := hid (hB2.out.alloc hB2.out.size (.cells #[.int .i64 x1, .int .i64 x2, .int .i64 x3, .slice sa sl sc', .int .i64 x5, .int .i64 x6, .int .i64 x7, .bool x8] 42))
          have y0 := keepc BX.out ZZ.out.1
          have y1 := keepc BX.out ZZ.out.2.1
          have y2 := keepc BX.out ZZ.out.2.2.1
          have y3 := keepc BX.out ZZ.out.2.2.2.1
          have y4 := keepc BX.out ZZ.out.2.2.2.2.1
          have y5 := keepc BX.out ZZ.out.2.2.2.2.2.1
          have y6 := keepc BX.out ZZ.out.2.2.2.2.2.2
          have u0 := keepc BX.out VV.out.1
          have u1 := keepc BX.out VV.out.2
          by_cases hqq : x2 = q1
          · subst hqq
            go_wp2_with fail
            clear c1 c2 c3 c4 c5 c6 c7 c8
            have l0 : (wr.alloc (.cells #[.int .i64 x1, .int .i64 x2, .int .i64 x3, .slice sa sl sc', .int .i64 x5, .int .i64 x6, .int .i64 x7, .bool x8] 42)).cell? ⟨wr.heap.size, 0, none⟩ = some (.int .i64 x1) := by simp [go_sem]
            with_reducible refine (YI.out _).mono ?_
            rintro e w9 ⟨rfl, b9⟩
            replace l0 := keepc b9 l0
            have B9 := hid (BX.out.trans (b9.mono BX.out.size))
            clear b9 y0 y1 y2 y3 y4 y5 y6 u0 u1 YI
            cases FB with
            | false =>
              have LC2 : Hid (lastC (yB l us k) m (j + 1) = lc) := by unfold Hid; rw [LC.out]; simp
              clear LC
              cases lc <;> (
                go_wp2_with fail
                refine ⟨⟨j + 1, by omega, by go_num, by rw [LC2.out]; rfl, by rw [LC2.out]; rfl, B9⟩, ?_⟩
                simp [intOf]; omega)
            | true =>
              cases lc with
              | none =>
                have LC2 : Hid (lastC (yB l us k) m (j + 1) = some x1) := by unfold Hid; rw [LC.out]; simp
                clear LC
                go_wp2_with fail
                refine ⟨⟨j + 1, by omega, by go_num, by rw [LC2.out]; rfl, by rw [LC2.out]; rfl, B9⟩, ?_⟩
                simp [intOf]; omega
              | some t0 =>
                by_cases htt : t0 < x1
                · have tt : decide (t0 < x1) = true := by simpa using htt
                  have LC2 : Hid (lastC (yB l us k) m (j + 1) = some x1) := by unfold Hid; rw [LC.out]; simp [htt]
                  clear LC htt
                  simp only [Option.getD_some, Option.isSome_some]
                  go_wp2_with fail
                  refine ⟨⟨j + 1, by omega, by go_num, by rw [LC2.out]; rfl, by rw [LC2.out]; rfl, B9⟩, ?_⟩
                  simp [intOf]; omega
                · have tt : decide (t0 < x1) = false := by simpa using htt
                  have LC2 : Hid (lastC (yB l us k) m (j + 1) = some t0) := by unfold Hid; rw [LC.out]; simp [htt]
                  clear LC htt
                  simp only [Option.getD_some, Option.isSome_some]
                  go_wp2_with fail
                  refine ⟨⟨j + 1, by omega, by go_num, by rw [LC2.out]; rfl, by rw [LC2.out]; rfl, B9⟩, ?_⟩
                  simp [intOf]; omega
          · have tq : (x2 == q1) = false := by simpa using hqq
            have LC2 : Hid (lastC (yB l us k) m (j + 1) = lc) := by unfold Hid; rw [LC.out]; simp [hqq]
            clear LC hqq YI
            go_wp2_with fail
            refine ⟨⟨j + 1, by omega, by go_num, by rw [LC2.out], by rw [LC2.out], BX⟩, ?_⟩
            simp [intOf]; omega
        · obtain rfl : mn = j := by omega
          generalize hlf : lastC (yB l us k) m mn = lf at *
          clear hlf
          have bx := Below.drew (Below.refl wr.heap.size wr)
          have TW := hid (fun W (hW : Below wr.heap.size wr W) => T8.out.trans (hW.mono T8.out.size))
          have FW := hid (fun W (hW : Below wr.heap.size wr W) => F8.out.trans (hW.mono F8.out.size))
          have y0 := keepc hB2.out ZZ.out.1
          have y2 := keepc hB2.out ZZ.out.2.2.1
          have v0 := keepc hB2.out VV.out.1
          have v1_ := keepc hB2.out VV.out.2
          have m0 := keepc F8.out MM.out.1
          have m1 := keepc F8.out MM.out.2
          have BX := hid bx
          clear bx
          cases lf with
          | none =>
            have DT2 : Hid (docT l us m p1 p2 (k + 1) = docT l us m p1 p2 k) := DT.out
            clear DT IV LSK
            simp only [Option.isSome_none, Option.getD_none]
            go_wp2_with fail
            refine wp_region_held_drew (S := (fun w' => True)) (by kernel_rfl) trivial (fun hHeld => ?_)
            refine wpAnyH_take (i := 0) (v := .bool false) rfl (by kernel_rfl) (by kernel_rfl) (by kernel_rfl) (fun _ _ _ h => h) (Or.inl ⟨by rfl, ?_⟩) (by assumption) ?_
            · (intro w hSw; (try dsimp only at hSw); go_simp)
            (try simp only [Act.put, List.getElem_toArray, List.getElem_cons_succ, List.getElem_cons_zero, List.setIfInBounds_toArray, List.set_cons_zero, List.set_cons_succ])
            refine wpAnyH_take (i := 1) (v := .bool false) rfl (by kernel_rfl) (by kernel_rfl) (by kernel_rfl) (fun _ _ _ h => h) (Or.inl ⟨by rfl, ?_⟩) (by assumption) ?_
            · (intro w hSw; (try dsimp only at hSw); go_simp)
            (try simp only [Act.put, List.getElem_toArray, List.getElem_cons_succ, List.getElem_cons_zero, List.setIfInBounds_toArray, List.set_cons_zero, List.set_cons_succ])
            refine wpAnyH_take (i := 2) (v := undef) rfl (by kernel_rfl) (by kernel_rfl) (by kernel_rfl) (fun _ _ _ h => h) (Or.inr ⟨by rfl, rfl⟩) (by assumption) ?_
            (try simp only [Act.put, List.getElem_toArray, List.getElem_cons_succ, List.getElem_cons_zero, List.setIfInBounds_toArray, List.set_cons_zero, List.set_cons_succ])
            refine wpAnyH_take (i := 3) (v := undef) rfl (by kernel_rfl) (by kernel_rfl) (by kernel_rfl) (fun _ _ _ h => h) (Or.inr ⟨by rfl, rfl⟩) (by assumption) ?_
            (try simp only [Act.put, List.getElem_toArray, List.getElem_cons_succ, List.getElem_cons_zero, List.setIfInBounds_toArray, List.set_cons_zero, List.set_cons_succ])
            refine wpAnyH_take (i := 4) (v := undef) rfl (by kernel_rfl) (by kernel_rfl) (by kernel_rfl) (fun _ _ _ h => h) (Or.inr ⟨by rfl, rfl⟩) (by assumption) ?_
            (try simp only [Act.put, List.getElem_toArray, List.getElem_cons_succ, List.getElem_cons_zero, List.setIfInBounds_toArray, List.set_cons_zero, List.set_cons_succ])
            refine wpAnyH_take (i := 5) (v := undef) rfl (by kernel_rfl) (by kernel_rfl) (by kernel_rfl) (fun _ _ _ h => h) (Or.inr ⟨by rfl, rfl⟩) (by assumption) ?_
            (try simp only [Act.put, List.getElem_toArray, List.getElem_cons_succ, List.getElem_cons_zero, List.setIfInBounds_toArray, List.set_cons_zero, List.set_cons_succ])
            refine wpAnyH_take (i := 6) (v := undef) rfl (by kernel_rfl) (by kernel_rfl) (by kernel_rfl) (fun _ _ _ h => h) (Or.inr ⟨by rfl, rfl⟩) (by assumption) ?_
            (try simp only [Act.put, List.getElem_toArray, List.getElem_cons_succ, List.getElem_cons_zero, List.setIfInBounds_toArray, List.set_cons_zero, List.set_cons_succ])
            refine wpAnyH_take (i := 7) (v := undef) rfl (by kernel_rfl) (by kernel_rfl) (by kernel_rfl) (fun _ _ _ h => h) (Or.inr ⟨by rfl, rfl⟩) (by assumption) ?_
            (try simp only [Act.put, List.getElem_toArray, List.getElem_cons_succ, List.getElem_cons_zero, List.setIfInBounds_toArray, List.set_cons_zero, List.set_cons_succ])
            refine wpAnyH_take (i := 8) (v := undef) rfl (by kernel_rfl) (by kernel_rfl) (by kernel_rfl) (fun _ _ _ h => h) (Or.inr ⟨by rfl, rfl⟩) (by assumption) ?_
            (try simp only [Act.put, List.getElem_toArray, List.getElem_cons_succ, List.getElem_cons_zero, List.setIfInBounds_toArray, List.set_cons_zero, List.set_cons_succ])
            refine wpAnyH_take (i := 9) (v := undef) rfl (by kernel_rfl) (by kernel_rfl) (by kernel_rfl) (fun _ _ _ h => h) (Or.inr ⟨by rfl, rfl⟩) (by assumption) ?_
            (try simp only [Act.put, List.getElem_toArray, List.getElem_cons_succ, List.getElem_cons_zero, List.setIfInBounds_toArray, List.set_cons_zero, List.set_cons_succ])
            refine wpAnyH_take (i := 10) (v := undef) rfl (by kernel_rfl) (by kernel_rfl) (by kernel_rfl) (fun _ _ _ h => h) (Or.inr ⟨by rfl, rfl⟩) (by assumption) ?_
            (try simp only [Act.put, List.getElem_toArray, List.getElem_cons_succ, List.getElem_cons_zero, List.setIfInBounds_toArray, List.set_cons_zero, List.set_cons_succ])
            refine wpAnyH_take (i := 11) (v := undef) rfl (by kernel_rfl) (by kernel_rfl) (by kernel_rfl) (fun _ _ _ h => h) (Or.inr ⟨by rfl, rfl⟩) (by assumption) ?_
            (try simp only [Act.put, List.getElem_toArray, List.getElem_cons_succ, List.getElem_cons_zero, List.setIfInBounds_toArray, List.set_cons_zero, List.set_cons_succ])
            refine wpAnyH_take (i := 12) (v := undef) rfl (by kernel_rfl) (by kernel_rfl) (by kernel_rfl) (fun _ _ _ h => h) (Or.inr ⟨by rfl, rfl⟩) (by assumption) ?_
            (try simp only [Act.put, List.getElem_toArray, List.getElem_cons_succ, List.getElem_cons_zero, List.setIfInBounds_toArray, List.set_cons_zero, List.set_cons_succ])
            refine wpAnyH_take (i := 13) (v := undef) rfl (by kernel_rfl) (by kernel_rfl) (by kernel_rfl) (fun _ _ _ h => h) (Or.inr ⟨by rfl, rfl⟩) (by assumption) ?_
            (try simp only [Act.put, List.getElem_toArray, List.getElem_cons_succ, List.getElem_cons_zero, List.setIfInBounds_toArray, List.set_cons_zero, List.set_cons_succ])
            refine wpAnyH_take (i := 14) (v := undef) rfl (by kernel_rfl) (by kernel_rfl) (by kernel_rfl) (fun _ _ _ h => h) (Or.inr ⟨by rfl, rfl⟩) (by assumption) ?_
            (try simp only [Act.put, List.getElem_toArray, List.getElem_cons_succ, List.getElem_cons_zero, List.setIfInBounds_toArray, List.set_cons_zero, List.set_cons_succ])
            refine wpAnyH_take (i := 15) (v := undef) rfl (by kernel_rfl) (by kernel_rfl) (by kernel_rfl) (fun _ _ _ h => h) (Or.inr ⟨by rfl, rfl⟩) (by assumption) ?_
            (try simp only [Act.put, List.getElem_toArray, List.getElem_cons_succ, List.getElem_cons_zero, List.setIfInBounds_toArray, List.set_cons_zero, List.set_cons_succ])
            refine wpAnyH_take (i := 16) (v := undef) rfl (by kernel_rfl) (by kernel_rfl) (by kernel_rfl) (fun _ _ _ h => h) (Or.inr ⟨by rfl, rfl⟩) (by assumption) ?_
            (try simp only [Act.put, List.getElem_toArray, List.getElem_cons_succ, List.getElem_cons_zero, List.setIfInBounds_toArray, List.set_cons_zero, List.set_cons_succ])
            refine wpAnyH_take (i := 17) (v := undef) rfl (by kernel_rfl) (by kernel_rfl) (by kernel_rfl) (fun _ _ _ h => h) (Or.inr ⟨by rfl, rfl⟩) (by assumption) ?_
            (try simp only [Act.put, List.getElem_toArray, List.getElem_cons_succ, List.getElem_cons_zero, List.setIfInBounds_toArray, List.set_cons_zero, List.set_cons_succ])
            refine wpAnyH_take (i := 18) (v := undef) rfl (by kernel_rfl) (by kernel_rfl) (by kernel_rfl) (fun _ _ _ h => h) (Or.inr ⟨by rfl, rfl⟩) (by assumption) ?_
            (try simp only [Act.put, List.getElem_toArray, List.getElem_cons_succ, List.getElem_cons_zero, List.setIfInBounds_toArray, List.set_cons_zero, List.set_cons_succ])
            refine wpAnyH_take (i := 19) (v := undef) rfl (by kernel_rfl) (by kernel_rfl) (by kernel_rfl) (fun _ _ _ h => h) (Or.inr ⟨by rfl, rfl⟩) (by assumption) ?_
            (try simp only [Act.put, List.getElem_toArray, List.getElem_cons_succ, List.getElem_cons_zero, List.setIfInBounds_toArray, List.set_cons_zero, List.set_cons_succ])
            refine wpAnyH_take (i := 20) (v := .bool false) rfl (by kernel_rfl) (by kernel_rfl) (by kernel_rfl) (fun _ _ _ h => h) (Or.inl ⟨by rfl, ?_⟩) (by assumption) ?_
            · (intro w hSw; (try dsimp only at hSw); go_simp)
            (try simp only [Act.put, List.getElem_toArray, List.getElem_cons_succ, List.getElem_cons_zero, List.setIfInBounds_toArray, List.set_cons_zero, List.set_cons_succ])
            refine wpAnyH_done (by kernel_rfl) ?_ _
            clear hHeld 
            have BE_ := hid (FW.out _ BX.out)
            go_wp2_with fail
            refine ⟨⟨k + 1, by omega, by go_num, by rw [DT2.out, HBE.out], by rw [DT2.out, HTE.out], BE_⟩, ?_⟩
            simp [intOf]; omega
          | some t0 =>
            simp only [Option.isSome_some, Option.getD_some]
            rcases IV.out with ⟨i1, _⟩ | ⟨bk, tk, ib, i1, _, _⟩
            · have hb1 : BE = -1 := by rw [← HBE.out, i1]
              have DT2 : Hid (docT l us m p1 p2 (k + 1) = (q1, t0)) := by
                unfold Hid; rw [DT.out]; simp only; rw [if_pos (.inl (by rw [hb1]; decide))]
              clear DT IV LSK i1 HBE HTE
              subst hb1
              go_wp2_with fail
              refine wp_region_held_drew (S := (fun w' => True)) (by kernel_rfl) trivial (fun hHeld => ?_)
              refine wpAnyH_take (i := 0) (v := .bool true) rfl (by kernel_rfl) (by kernel_rfl) (by kernel_rfl) (fun _ _ _ h => h) (Or.inl ⟨by rfl, ?_⟩) (by assumption) ?_
              · (intro w hSw; (try dsimp only at hSw); go_simp)
              (try simp only [Act.put, List.getElem_toArray, List.getElem_cons_succ, List.getElem_cons_zero, List.setIfInBounds_toArray, List.set_cons_zero, List.set_cons_succ])
              refine wpAnyH_take (i := 1) (v := .bool true) rfl (by kernel_rfl) (by kernel_rfl) (by kernel_rfl) (fun _ _ _ h => h) (Or.inl ⟨by rfl, ?_⟩) (by assumption) ?_
              · (intro w hSw; (try dsimp only at hSw); go_simp)
              (try simp only [Act.put, List.getElem_toArray, List.getElem_cons_succ, List.getElem_cons_zero, List.setIfInBounds_toArray, List.set_cons_zero, List.set_cons_succ])
              refine wpAnyH_take (i := 2) (v := .int .i64 (-1)) rfl (by kernel_rfl) (by kernel_rfl) (by kernel_rfl) (fun _ _ _ h => h) (Or.inl ⟨by rfl, ?_⟩) (by assumption) ?_
              · (intro w hSw; (try dsimp only at hSw); go_simp)
              (try simp only [Act.put, List.getElem_toArray, List.getElem_cons_succ, List.getElem_cons_zero, List.setIfInBounds_toArray, List.set_cons_zero, List.set_cons_succ])
              refine wpAnyH_take (i := 3) (v := .bool true) rfl (by kernel_rfl) (by kernel_rfl) (by kernel_rfl) (fun _ _ _ h => h) (Or.inl ⟨by rfl, ?_⟩) (by assumption) ?_
              · (intro w hSw; (try dsimp only at hSw); go_simp)
              (try simp only [Act.put, List.getElem_toArray, List.getElem_cons_succ, List.getElem_cons_zero, List.setIfInBounds_toArray, List.set_cons_zero, List.set_cons_succ])
              refine wpAnyH_take (i := 4) (v := .bool true) rfl (by kernel_rfl) (by kernel_rfl) (by kernel_rfl) (fun _ _ _ h => h) (Or.inl ⟨by rfl, ?_⟩) (by assumption) ?_
              · (intro w hSw; (try dsimp only at hSw); go_simp)
              (try simp only [Act.put, List.getElem_toArray, List.getElem_cons_succ, List.getElem_cons_zero, List.setIfInBounds_toArray, List.set_cons_zero, List.set_cons_succ])
              refine wpAnyH_take (i := 5) (v := undef) rfl (by kernel_rfl) (by kernel_rfl) (by kernel_rfl) (fun _ _ _ h => h) (Or.inr ⟨by rfl, rfl⟩) (by assumption) ?_
              (try simp only [Act.put, List.getElem_toArray, List.getElem_cons_succ, List.getElem_cons_zero, List.setIfInBounds_toArray, List.set_cons_zero, List.set_cons_succ])
              refine wpAnyH_take (i := 6) (v := undef) rfl (by kernel_rfl) (by kernel_rfl) (by kernel_rfl) (fun _ _ _ h => h) (Or.inr ⟨by rfl, rfl⟩) (by assumption) ?_
              (try simp only [Act.put, List.getElem_toArray, List.getElem_cons_succ, List.getElem_cons_zero, List.setIfInBounds_toArray, List.set_cons_zero, List.set_cons_succ])
              refine wpAnyH_take (i := 7) (v := undef) rfl (by kernel_rfl) (by kernel_rfl) (by kernel_rfl) (fun _ _ _ h => h) (Or.inr ⟨by rfl, rfl⟩) (by assumption) ?_
              (try simp only [Act.put, List.getElem_toArray, List.getElem_cons_succ, List.getElem_cons_zero, List.setIfInBounds_toArray, List.set_cons_zero, List.set_cons_succ])
              refine wpAnyH_take (i := 8) (v := undef) rfl (by kernel_rfl) (by kernel_rfl) (by kernel_rfl) (fun _ _ _ h => h) (Or.inr ⟨by rfl, rfl⟩) (by assumption) ?_
              (try simp only [Act.put, List.getElem_toArray, List.getElem_cons_succ, List.getElem_cons_zero, List.setIfInBounds_toArray, List.set_cons_zero, List.set_cons_succ])
              refine wpAnyH_take (i := 9) (v := undef) rfl (by kernel_rfl) (by kernel_rfl) (by kernel_rfl) (fun _ _ _ h => h) (Or.inr ⟨by rfl, rfl⟩) (by assumption) ?_
              (try simp only [Act.put, List.getElem_toArray, List.getElem_cons_succ, List.getElem_cons_zero, List.setIfInBounds_toArray, List.set_cons_zero, List.set_cons_succ])
              refine wpAnyH_take (i := 10) (v := undef) rfl (by kernel_rfl) (by kernel_rfl) (by kernel_rfl) (fun _ _ _ h => h) (Or.inr ⟨by rfl, rfl⟩) (by assumption) ?_
              (try simp only [Act.put, List.getElem_toArray, List.getElem_cons_succ, List.getElem_cons_zero, List.setIfInBounds_toArray, List.set_cons_zero, List.set_cons_succ])
              refine wpAnyH_take (i := 11) (v := undef) rfl (by kernel_rfl) (by kernel_rfl) (by kernel_rfl) (fun _ _ _ h => h) (Or.inr ⟨by rfl, rfl⟩) (by assumption) ?_
              (try simp only [Act.put, List.getElem_toArray, List.getElem_cons_succ, List.getElem_cons_zero, List.setIfInBounds_toArray, List.set_cons_zero, List.set_cons_succ])
              refine wpAnyH_take (i := 12) (v := undef) rfl (by kernel_rfl) (by kernel_rfl) (by kernel_rfl) (fun _ _ _ h => h) (Or.inr ⟨by rfl, rfl⟩) (by assumption) ?_
              (try simp only [Act.put, List.getElem_toArray, List.getElem_cons_succ, List.getElem_cons_zero, List.setIfInBounds_toArray, List.set_cons_zero, List.set_cons_succ])
              refine wpAnyH_take (i := 13) (v := undef) rfl (by kernel_rfl) (by kernel_rfl) (by kernel_rfl) (fun _ _ _ h => h) (Or.inr ⟨by rfl, rfl⟩) (by assumption) ?_
              (try simp only [Act.put, List.getElem_toArray, List.getElem_cons_succ, List.getElem_cons_zero, List.setIfInBounds_toArray, List.set_cons_zero, List.set_cons_succ])
              refine wpAnyH_take (i := 14) (v := undef) rfl (by kernel_rfl) (by kernel_rfl) (by kernel_rfl) (fun _ _ _ h => h) (Or.inr ⟨by rfl, rfl⟩) (by assumption) ?_
              (try simp only [Act.put, List.getElem_toArray, List.getElem_cons_succ, List.getElem_cons_zero, List.setIfInBounds_toArray, List.set_cons_zero, List.set_cons_succ])
              refine wpAnyH_take (i := 15) (v := undef) rfl (by kernel_rfl) (by kernel_rfl) (by kernel_rfl) (fun _ _ _ h => h) (Or.inr ⟨by rfl, rfl⟩) (by assumption) ?_
              (try simp only [Act.put, List.getElem_toArray, List.getElem_cons_succ, List.getElem_cons_zero, List.setIfInBounds_toArray, List.set_cons_zero, List.set_cons_succ])
              refine wpAnyH_take (i := 16) (v := undef) rfl (by kernel_rfl) (by kernel_rfl) (by kernel_rfl) (fun _ _ _ h => h) (Or.inr ⟨by rfl, rfl⟩) (by assumption) ?_
              (try simp only [Act.put, List.getElem_toArray, List.getElem_cons_succ, List.getElem_cons_zero, List.setIfInBounds_toArray, List.set_cons_zero, List.set_cons_succ])
              refine wpAnyH_take (i := 17) (v := undef) rfl (by kernel_rfl) (by kernel_rfl) (by kernel_rfl) (fun _ _ _ h => h) (Or.inr ⟨by rfl, rfl⟩) (by assumption) ?_
              (try simp only [Act.put, List.getElem_toArray, List.getElem_cons_succ, List.getElem_cons_zero, List.setIfInBounds_toArray, List.set_cons_zero, List.set_cons_succ])
              refine wpAnyH_take (i := 18) (v := undef) rfl (by kernel_rfl) (by kernel_rfl) (by kernel_rfl) (fun _ _ _ h => h) (Or.inr ⟨by rfl, rfl⟩) (by assumption) ?_
              (try simp only [Act.put, List.getElem_toArray, List.getElem_cons_succ, List.getElem_cons_zero, List.setIfInBounds_toArray, List.set_cons_zero, List.set_cons_succ])
              refine wpAnyH_take (i := 19) (v := .bool true) rfl (by kernel_rfl) (by kernel_rfl) (by kernel_rfl) (fun _ _ _ h => h) (Or.inl ⟨by rfl, ?_⟩) (by assumption) ?_
              · (intro w hSw; (try dsimp only at hSw); go_simp)
              (try simp only [Act.put, List.getElem_toArray, List.getElem_cons_succ, List.getElem_cons_zero, List.setIfInBounds_toArray, List.set_cons_zero, List.set_cons_succ])
              refine wpAnyH_take (i := 20) (v := .bool true) rfl (by kernel_rfl) (by kernel_rfl) (by kernel_rfl) (fun _ _ _ h => h) (Or.inl ⟨by rfl, ?_⟩) (by assumption) ?_
              · (intro w hSw; (try dsimp only at hSw); go_simp)
              (try simp only [Act.put, List.getElem_toArray, List.getElem_cons_succ, List.getElem_cons_zero, List.setIfInBounds_toArray, List.set_cons_zero, List.set_cons_succ])
              refine wpAnyH_done (by kernel_rfl) ?_ _
              clear hHeld 
              replace y0 := drewc y0
              have BE_ := hid (FW.out _ BX.out)
              go_wp2_with fail
              refine ⟨⟨k + 1, by omega, by go_num, by rw [DT2.out], by rw [DT2.out], BE_⟩, ?_⟩
              simp [intOf]; omega
            · have hbl' : bk < l.length := by omega
              have hb1 : BE = (qa l bk).id := by rw [← HBE.out, i1]
              have hb0 := HF.out.id_nonneg hbl'
              have PLB := HF.out.pl hbl'
              have LOB := LOK.out bk hbl'
              have WB_ := WT.out bk hbl'
              have hok_ : leok A1 A2 q3 (vecAt l us bk).1 (vecAt l us bk).2 (qa l bk).wt p1 p2 = true := by
                unfold leok
                simp only [List.all_cons, List.all_nil, Bool.and_true, Bool.and_eq_true]
                exact ⟨⟨LO.1, LOB.1, LO.2.2⟩, WK, WB_⟩
              have CLE := hid (fun W => rless_any _ _ _ _ _ _ _ _ hok_ W)
              have CS2 := hid (fun W (hW : Below w.heap.size w W) (hW4 : Below w4.heap.size w4 W) => rsum_any (some ⟨lb, lo, none⟩) len cap l (some ⟨sb, so, none⟩) sc (vecsTo l us len) BE W (HH.out.below hW) (HV.out.below hW4) (by rw [hb1, PLB]; omega))
              rw [hb1, PLB, va_vecs (show bk < len by omega), ← hb1] at CS2
              have CFI := hid (fun W (hW : Below w.heap.size w W) => find_any (some ⟨lb, lo, none⟩) len cap l BE W (HH.out.below hW) (by rw [hb1, PLB]; omega))
              rw [hb1, PLB, ← hb1] at CFI
              have DT2 : Hid (docT l us m p1 p2 (k + 1) = if 0 < lev A1 A2 q3 (vecAt l us bk).1 (vecAt l us bk).2 (qa l bk).wt p1 p2 then (q1, t0) else docT l us m p1 p2 k) := by
                unfold Hid; rw [DT.out]; simp only
                rw [hb1, PLB, LSK.out]
                by_cases hz : 0 < lev A1 A2 q3 (vecAt l us bk).1 (vecAt l us bk).2 (qa l bk).wt p1 p2
                · rw [if_pos (.inr hz), if_pos hz]
                · rw [if_neg (fun h => by rcases h with h | h <;> omega), if_neg hz]
              have CS3 := hid (fun W (hW : Below wr.heap.size wr W) => CS2.out W (TW.out _ hW) (FW.out _ hW))
              clear DT IV LSK i1 hok_ CS2 PLB LOB WB_
              generalize lev A1 A2 q3 (vecAt l us bk).1 (vecAt l us bk).2 (qa l bk).wt p1 p2 = V at *
              generalize vecAt l us bk = VX at *
              obtain ⟨X1, X2⟩ := VX
              generalize hkq : qa l bk = kq at *
              clear hkq
              obtain ⟨k1, k2, k3, k4, k5, k6, k7⟩ := kq
              simp only [qv] at *
              subst hb1
              have tb : decide (BE < 0) = false := by simp; omega
              by_cases hv : 0 < V
              · have tl : decide (0 < V) = true := by simpa using hv
                have DT3 : Hid (docT l us m p1 p2 (k + 1) = (q1, t0)) := by unfold Hid; rw [DT2.out, if_pos hv]
                clear DT2 hv
                go_wp2_with fail
                have rg_y0 := drewc y0
                have rg_y2 := drewc y2
                have rg_v0 := drewc v0
                have rg_v1_ := drewc v1_
                have rg_m0 := drewc m0
                have rg_m1 := drewc m1
                refine wp_region_held_drew (S := (fun w' => w'.cell? ⟨QK, 0, none⟩ = some (.int .i64 q1) ∧ w'.cell? ⟨QK, 2, none⟩ = some (.int .i64 q3) ∧ w'.cell? ⟨VK, 0, none⟩ = some (.int .i64 A1) ∧ w'.cell? ⟨VK, 1, none⟩ = some (.int .i64 A2) ∧ w'.cell? ⟨w.heap.size, 0, none⟩ = some (.int .i64 p1) ∧ w'.cell? ⟨w.heap.size, 1, none⟩ = some (.int .i64 p2))) (by kernel_rfl) ⟨rg_y0, rg_y2, rg_v0, rg_v1_, rg_m0, rg_m1⟩ (fun hHeld => ?_)
                refine wpAnyH_take (i := 0) (v := .bool true) rfl (by kernel_rfl) (by kernel_rfl) (by kernel_rfl) (fun _ _ _ h => h) (Or.inl ⟨by rfl, ?_⟩) (by assumption) ?_
                · (intro w hSw; (try dsimp only at hSw); go_simp)
                (try simp only [Act.put, List.getElem_toArray, List.getElem_cons_succ, List.getElem_cons_zero, List.setIfInBounds_toArray, List.set_cons_zero, List.set_cons_succ])
                refine wpAnyH_take (i := 1) (v := .bool true) rfl (by kernel_rfl) (by kernel_rfl) (by kernel_rfl) (fun _ _ _ h => h) (Or.inl ⟨by rfl, ?_⟩) (by assumption) ?_
                · (intro w hSw; (try dsimp only at hSw); go_simp)
                (try simp only [Act.put, List.getElem_toArray, List.getElem_cons_succ, List.getElem_cons_zero, List.setIfInBounds_toArray, List.set_cons_zero, List.set_cons_succ])
                refine wpAnyH_take (i := 2) (v := .int .i64 BE) rfl (by kernel_rfl) (by kernel_rfl) (by kernel_rfl) (fun _ _ _ h => h) (Or.inl ⟨by rfl, ?_⟩) (by assumption) ?_
                · (intro w hSw; (try dsimp only at hSw); go_simp)
                (try simp only [Act.put, List.getElem_toArray, List.getElem_cons_succ, List.getElem_cons_zero, List.setIfInBounds_toArray, List.set_cons_zero, List.set_cons_succ])
                refine wpAnyH_take (i := 3) (v := .bool false) rfl (by kernel_rfl) (by kernel_rfl) (by kernel_rfl) (fun _ _ _ h => h) (Or.inl ⟨by rfl, ?_⟩) (by assumption) ?_
                · (intro w hSw; (try dsimp only at hSw); go_simp)
                (try simp only [Act.put, List.getElem_toArray, List.getElem_cons_succ, List.getElem_cons_zero, List.setIfInBounds_toArray, List.set_cons_zero, List.set_cons_succ])
                refine wpAnyH_take (i := 4) (v := .bool false) rfl (by kernel_rfl) (by kernel_rfl) (by kernel_rfl) (fun _ _ _ h => h) (Or.inl ⟨by rfl, ?_⟩) (by assumption) ?_
                · (intro w hSw; (try dsimp only at hSw); go_simp)
                (try simp only [Act.put, List.getElem_toArray, List.getElem_cons_succ, List.getElem_cons_zero, List.setIfInBounds_toArray, List.set_cons_zero, List.set_cons_succ])
                refine wpAnyH_take (i := 5) (v := .agg #[.int .i64 A1, .int .i64 A2]) rfl (by kernel_rfl) (by kernel_rfl) (by kernel_rfl) (fun _ _ _ h => h) (Or.inl ⟨by rfl, ?_⟩) (by assumption) ?_
                · (intro w hSw; (try dsimp only at hSw); go_simp)
                (try simp only [Act.put, List.getElem_toArray, List.getElem_cons_succ, List.getElem_cons_zero, List.setIfInBounds_toArray, List.set_cons_zero, List.set_cons_succ])
                refine wpAnyH_take (i := 6) (v := .pointer (some ⟨QK, 2, none⟩)) rfl (by kernel_rfl) (by kernel_rfl) (by kernel_rfl) (fun _ _ _ h => h) (Or.inl ⟨by rfl, ?_⟩) (by assumption) ?_
                · (intro w hSw; (try dsimp only at hSw); go_simp)
                (try simp only [Act.put, List.getElem_toArray, List.getElem_cons_succ, List.getElem_cons_zero, List.setIfInBounds_toArray, List.set_cons_zero, List.set_cons_succ])
                refine wpAnyH_take (i := 7) (v := .int .i64 q3) rfl (by kernel_rfl) (by kernel_rfl) (by kernel_rfl) (fun _ _ _ h => h) (Or.inl ⟨by rfl, ?_⟩) (by assumption) ?_
                · (intro w hSw; (try dsimp only at hSw); go_simp)
                (try simp only [Act.put, List.getElem_toArray, List.getElem_cons_succ, List.getElem_cons_zero, List.setIfInBounds_toArray, List.set_cons_zero, List.set_cons_succ])
                refine wpAnyH_take (i := 8) (v := .slice (some ⟨lb, lo, none⟩) len cap) rfl (by kernel_rfl) (by kernel_rfl) (by kernel_rfl) (fun _ _ _ h => h) (Or.inl ⟨by rfl, ?_⟩) (by assumption) ?_
                · (intro w hSw; (try dsimp only at hSw); go_simp)
                (try simp only [Act.put, List.getElem_toArray, List.getElem_cons_succ, List.getElem_cons_zero, List.setIfInBounds_toArray, List.set_cons_zero, List.set_cons_succ])
                refine wpAnyH_take (i := 9) (v := .slice (some ⟨sb, so, none⟩) len sc) rfl (by kernel_rfl) (by kernel_rfl) (by kernel_rfl) (fun _ _ _ h => h) (Or.inl ⟨by rfl, ?_⟩) (by assumption) ?_
                · (intro w hSw; (try dsimp only at hSw); go_simp)
                (try simp only [Act.put, List.getElem_toArray, List.getElem_cons_succ, List.getElem_cons_zero, List.setIfInBounds_toArray, List.set_cons_zero, List.set_cons_succ])
                refine wpAnyH_take (i := 10) (v := .int .i64 BE) rfl (by kernel_rfl) (by kernel_rfl) (by kernel_rfl) (fun _ _ _ h => h) (Or.inl ⟨by rfl, ?_⟩) (by assumption) ?_
                · (intro w hSw; (try dsimp only at hSw); go_simp)
                (try simp only [Act.put, List.getElem_toArray, List.getElem_cons_succ, List.getElem_cons_zero, List.setIfInBounds_toArray, List.set_cons_zero, List.set_cons_succ])
                refine wpAnyH_take (i := 12) (v := .slice (some ⟨lb, lo, none⟩) len cap) rfl (by kernel_rfl) (by kernel_rfl) (by kernel_rfl) (fun _ _ _ h => h) (Or.inl ⟨by rfl, ?_⟩) (by assumption) ?_
                · (intro w hSw; (try dsimp only at hSw); go_simp)
                (try simp only [Act.put, List.getElem_toArray, List.getElem_cons_succ, List.getElem_cons_zero, List.setIfInBounds_toArray, List.set_cons_zero, List.set_cons_succ])
                refine wpAnyH_take (i := 13) (v := .int .i64 BE) rfl (by kernel_rfl) (by kernel_rfl) (by kernel_rfl) (fun _ _ _ h => h) (Or.inl ⟨by rfl, ?_⟩) (by assumption) ?_
                · (intro w hSw; (try dsimp only at hSw); go_simp)
                (try simp only [Act.put, List.getElem_toArray, List.getElem_cons_succ, List.getElem_cons_zero, List.setIfInBounds_toArray, List.set_cons_zero, List.set_cons_succ])
                refine wpAnyH_take (i := 16) (v := .agg #[.int .i64 p1, .int .i64 p2]) rfl (by kernel_rfl) (by kernel_rfl) (by kernel_rfl) (fun _ _ _ h => h) (Or.inl ⟨by rfl, ?_⟩) (by assumption) ?_
                · (intro w hSw; (try dsimp only at hSw); go_simp)
                (try simp only [Act.put, List.getElem_toArray, List.getElem_cons_succ, List.getElem_cons_zero, List.setIfInBounds_toArray, List.set_cons_zero, List.set_cons_succ])
                refine wpAnyH_ready (rs := [11]) (by kernel_rfl) (by simp) ?_
                refine AllReadyH.cons rfl (fun K hK => ?_) AllReadyH.nil
                go_simp
                with_reducible refine (CS3.out _ BX.out).mono ?_
                rintro e u1 ⟨rfl, b1⟩
                replace BX := hid (BX.out.trans (b1.mono BX.out.size))
                replace rg_y0 := keepc b1 rg_y0
                replace rg_y2 := keepc b1 rg_y2
                replace rg_v0 := keepc b1 rg_v0
                replace rg_v1_ := keepc b1 rg_v1_
                replace rg_m0 := keepc b1 rg_m0
                replace rg_m1 := keepc b1 rg_m1
                refine hK.out _ _ ⟨rg_y0, rg_y2, rg_v0, rg_v1_, rg_m0, rg_m1⟩ (fun hHeld => ?_)
                clear hK K
                (try simp only [Act.put, List.getElem_toArray, List.getElem_cons_succ, List.getElem_cons_zero, List.setIfInBounds_toArray, List.set_cons_zero, List.set_cons_succ])
                refine wpAnyH_ready (rs := [14]) (by kernel_rfl) (by simp) ?_
                refine AllReadyH.cons rfl (fun K hK => ?_) AllReadyH.nil
                go_simp
                with_reducible refine (CFI.out _ (TW.out _ BX.out)).mono ?_
                rintro e u2 ⟨rfl, b2⟩
                replace BX := hid (BX.out.trans (b2.mono BX.out.size))
                replace rg_y0 := keepc b2 rg_y0
                replace rg_y2 := keepc b2 rg_y2
                replace rg_v0 := keepc b2 rg_v0
                replace rg_v1_ := keepc b2 rg_v1_
                replace rg_m0 := keepc b2 rg_m0
                replace rg_m1 := keepc b2 rg_m1
                refine hK.out _ _ ⟨rg_y0, rg_y2, rg_v0, rg_v1_, rg_m0, rg_m1⟩ (fun hHeld => ?_)
                clear hK K
                (try simp only [Act.put, List.getElem_toArray, List.getElem_cons_succ, List.getElem_cons_zero, List.setIfInBounds_toArray, List.set_cons_zero, List.set_cons_succ])
                refine wpAnyH_take (i := 15) (v := .int .i64 k3) rfl (by kernel_rfl) (by kernel_rfl) (by kernel_rfl) (fun _ _ _ h => h) (Or.inl ⟨by rfl, ?_⟩) (by assumption) ?_
                · (intro w hSw; have hpf := run_wt8; (try dsimp only at hSw); go_simp)
                (try simp only [Act.put, List.getElem_toArray, List.getElem_cons_succ, List.getElem_cons_zero, List.setIfInBounds_toArray, List.set_cons_zero, List.set_cons_succ])
                refine wpAnyH_ready (rs := [17]) (by kernel_rfl) (by simp) ?_
                refine AllReadyH.cons rfl (fun K hK => ?_) AllReadyH.nil
                go_simp
                with_reducible refine (CLE.out _).mono ?_
                rintro e u3 ⟨rfl, b3⟩
                replace BX := hid (BX.out.trans (b3.mono BX.out.size))
                replace rg_y0 := keepc b3 rg_y0
                replace rg_y2 := keepc b3 rg_y2
                replace rg_v0 := keepc b3 rg_v0
                replace rg_v1_ := keepc b3 rg_v1_
                replace rg_m0 := keepc b3 rg_m0
                replace rg_m1 := keepc b3 rg_m1
                refine hK.out _ _ ⟨rg_y0, rg_y2, rg_v0, rg_v1_, rg_m0, rg_m1⟩ (fun hHeld => ?_)
                clear hK K
                (try simp only [Act.put, List.getElem_toArray, List.getElem_cons_succ, List.getElem_cons_zero, List.setIfInBounds_toArray, List.set_cons_zero, List.set_cons_succ])
                refine wpAnyH_take (i := 18) (v := .bool true) rfl (by kernel_rfl) (by kernel_rfl) (by kernel_rfl) (fun _ _ _ h => h) (Or.inl ⟨by rfl, ?_⟩) (by assumption) ?_
                · (intro w hSw; (try dsimp only at hSw); go_simp)
                (try simp only [Act.put, List.getElem_toArray, List.getElem_cons_succ, List.getElem_cons_zero, List.setIfInBounds_toArray, List.set_cons_zero, List.set_cons_succ])
                refine wpAnyH_take (i := 19) (v := .bool true) rfl (by kernel_rfl) (by kernel_rfl) (by kernel_rfl) (fun _ _ _ h => h) (Or.inl ⟨by rfl, ?_⟩) (by assumption) ?_
                · (intro w hSw; (try dsimp only at hSw); go_simp)
                (try simp only [Act.put, List.getElem_toArray, List.getElem_cons_succ, List.getElem_cons_zero, List.setIfInBounds_toArray, List.set_cons_zero, List.set_cons_succ])
                refine wpAnyH_take (i := 20) (v := .bool true) rfl (by kernel_rfl) (by kernel_rfl) (by kernel_rfl) (fun _ _ _ h => h) (Or.inl ⟨by rfl, ?_⟩) (by assumption) ?_
                · (intro w hSw; (try dsimp only at hSw); go_simp)
                (try simp only [Act.put, List.getElem_toArray, List.getElem_cons_succ, List.getElem_cons_zero, List.setIfInBounds_toArray, List.set_cons_zero, List.set_cons_succ])
                refine wpAnyH_done (by kernel_rfl) ?_ _
                clear hHeld rg_y0 rg_y2 rg_v0 rg_v1_ rg_m0 rg_m1
                replace y0 := keepc b3 (keepc b2 (keepc b1 (drewc y0)))
                have BE_ := hid (FW.out _ BX.out)
                clear b1 b2 b3
                go_wp2_with fail
                refine ⟨⟨k + 1, by omega, by go_num, by rw [DT3.out], by rw [DT3.out], BE_⟩, ?_⟩
                simp [intOf]; omega
              · have tl : decide (0 < V) = false := by simpa using hv
                have DT3 : Hid (docT l us m p1 p2 (k + 1) = docT l us m p1 p2 k) := by unfold Hid; rw [DT2.out, if_neg hv]
                clear DT2 hv
                go_wp2_with fail
                have rg_y0 := drewc y0
                have rg_y2 := drewc y2
                have rg_v0 := drewc v0
                have rg_v1_ := drewc v1_
                have rg_m0 := drewc m0
                have rg_m1 := drewc m1
                refine wp_region_held_drew (S := (fun w' => w'.cell? ⟨QK, 0, none⟩ = some (.int .i64 q1) ∧ w'.cell? ⟨QK, 2, none⟩ = some (.int .i64 q3) ∧ w'.cell? ⟨VK, 0, none⟩ = some (.int .i64 A1) ∧ w'.cell? ⟨VK, 1, none⟩ = some (.int .i64 A2) ∧ w'.cell? ⟨w.heap.size, 0, none⟩ = some (.int .i64 p1) ∧ w'.cell? ⟨w.heap.size, 1, none⟩ = some (.int .i64 p2))) (by kernel_rfl) ⟨rg_y0, rg_y2, rg_v0, rg_v1_, rg_m0, rg_m1⟩ (fun hHeld => ?_)
                refine wpAnyH_take (i := 0) (v := .bool true) rfl (by kernel_rfl) (by kernel_rfl) (by kernel_rfl) (fun _ _ _ h => h) (Or.inl ⟨by rfl, ?_⟩) (by assumption) ?_
                · (intro w hSw; (try dsimp only at hSw); go_simp)
                (try simp only [Act.put, List.getElem_toArray, List.getElem_cons_succ, List.getElem_cons_zero, List.setIfInBounds_toArray, List.set_cons_zero, List.set_cons_succ])
                refine wpAnyH_take (i := 1) (v := .bool true) rfl (by kernel_rfl) (by kernel_rfl) (by kernel_rfl) (fun _ _ _ h => h) (Or.inl ⟨by rfl, ?_⟩) (by assumption) ?_
                · (intro w hSw; (try dsimp only at hSw); go_simp)
                (try simp only [Act.put, List.getElem_toArray, List.getElem_cons_succ, List.getElem_cons_zero, List.setIfInBounds_toArray, List.set_cons_zero, List.set_cons_succ])
                refine wpAnyH_take (i := 2) (v := .int .i64 BE) rfl (by kernel_rfl) (by kernel_rfl) (by kernel_rfl) (fun _ _ _ h => h) (Or.inl ⟨by rfl, ?_⟩) (by assumption) ?_
                · (intro w hSw; (try dsimp only at hSw); go_simp)
                (try simp only [Act.put, List.getElem_toArray, List.getElem_cons_succ, List.getElem_cons_zero, List.setIfInBounds_toArray, List.set_cons_zero, List.set_cons_succ])
                refine wpAnyH_take (i := 3) (v := .bool false) rfl (by kernel_rfl) (by kernel_rfl) (by kernel_rfl) (fun _ _ _ h => h) (Or.inl ⟨by rfl, ?_⟩) (by assumption) ?_
                · (intro w hSw; (try dsimp only at hSw); go_simp)
                (try simp only [Act.put, List.getElem_toArray, List.getElem_cons_succ, List.getElem_cons_zero, List.setIfInBounds_toArray, List.set_cons_zero, List.set_cons_succ])
                refine wpAnyH_take (i := 4) (v := .bool false) rfl (by kernel_rfl) (by kernel_rfl) (by kernel_rfl) (fun _ _ _ h => h) (Or.inl ⟨by rfl, ?_⟩) (by assumption) ?_
                · (intro w hSw; (try dsimp only at hSw); go_simp)
                (try simp only [Act.put, List.getElem_toArray, List.getElem_cons_succ, List.getElem_cons_zero, List.setIfInBounds_toArray, List.set_cons_zero, List.set_cons_succ])
                refine wpAnyH_take (i := 5) (v := .agg #[.int .i64 A1, .int .i64 A2]) rfl (by kernel_rfl) (by kernel_rfl) (by kernel_rfl) (fun _ _ _ h => h) (Or.inl ⟨by rfl, ?_⟩) (by assumption) ?_
                · (intro w hSw; (try dsimp only at hSw); go_simp)
                (try simp only [Act.put, List.getElem_toArray, List.getElem_cons_succ, List.getElem_cons_zero, List.setIfInBounds_toArray, List.set_cons_zero, List.set_cons_succ])
                refine wpAnyH_take (i := 6) (v := .pointer (some ⟨QK, 2, none⟩)) rfl (by kernel_rfl) (by kernel_rfl) (by kernel_rfl) (fun _ _ _ h => h) (Or.inl ⟨by rfl, ?_⟩) (by assumption) ?_
                · (intro w hSw; (try dsimp only at hSw); go_simp)
                (try simp only [Act.put, List.getElem_toArray, List.getElem_cons_succ, List.getElem_cons_zero, List.setIfInBounds_toArray, List.set_cons_zero, List.set_cons_succ])
                refine wpAnyH_take (i := 7) (v := .int .i64 q3) rfl (by kernel_rfl) (by kernel_rfl) (by kernel_rfl) (fun _ _ _ h => h) (Or.inl ⟨by rfl, ?_⟩) (by assumption) ?_
                · (intro w hSw; (try dsimp only at hSw); go_simp)
                (try simp only [Act.put, List.getElem_toArray, List.getElem_cons_succ, List.getElem_cons_zero, List.setIfInBounds_toArray, List.set_cons_zero, List.set_cons_succ])
                refine wpAnyH_take (i := 8) (v := .slice (some ⟨lb, lo, none⟩) len cap) rfl (by kernel_rfl) (by kernel_rfl) (by kernel_rfl) (fun _ _ _ h => h) (Or.inl ⟨by rfl, ?_⟩) (by assumption) ?_
                · (intro w hSw; (try dsimp only at hSw); go_simp)
                (try simp only [Act.put, List.getElem_toArray, List.getElem_cons_succ, List.getElem_cons_zero, List.setIfInBounds_toArray, List.set_cons_zero, List.set_cons_succ])
                refine wpAnyH_take (i := 9) (v := .slice (some ⟨sb, so, none⟩) len sc) rfl (by kernel_rfl) (by kernel_rfl) (by kernel_rfl) (fun _ _ _ h => h) (Or.inl ⟨by rfl, ?_⟩) (by assumption) ?_
                · (intro w hSw; (try dsimp only at hSw); go_simp)
                (try simp only [Act.put, List.getElem_toArray, List.getElem_cons_succ, List.getElem_cons_zero, List.setIfInBounds_toArray, List.set_cons_zero, List.set_cons_succ])
                refine wpAnyH_take (i := 10) (v := .int .i64 BE) rfl (by kernel_rfl) (by kernel_rfl) (by kernel_rfl) (fun _ _ _ h => h) (Or.inl ⟨by rfl, ?_⟩) (by assumption) ?_
                · (intro w hSw; (try dsimp only at hSw); go_simp)
                (try simp only [Act.put, List.getElem_toArray, List.getElem_cons_succ, List.getElem_cons_zero, List.setIfInBounds_toArray, List.set_cons_zero, List.set_cons_succ])
                refine wpAnyH_take (i := 12) (v := .slice (some ⟨lb, lo, none⟩) len cap) rfl (by kernel_rfl) (by kernel_rfl) (by kernel_rfl) (fun _ _ _ h => h) (Or.inl ⟨by rfl, ?_⟩) (by assumption) ?_
                · (intro w hSw; (try dsimp only at hSw); go_simp)
                (try simp only [Act.put, List.getElem_toArray, List.getElem_cons_succ, List.getElem_cons_zero, List.setIfInBounds_toArray, List.set_cons_zero, List.set_cons_succ])
                refine wpAnyH_take (i := 13) (v := .int .i64 BE) rfl (by kernel_rfl) (by kernel_rfl) (by kernel_rfl) (fun _ _ _ h => h) (Or.inl ⟨by rfl, ?_⟩) (by assumption) ?_
                · (intro w hSw; (try dsimp only at hSw); go_simp)
                (try simp only [Act.put, List.getElem_toArray, List.getElem_cons_succ, List.getElem_cons_zero, List.setIfInBounds_toArray, List.set_cons_zero, List.set_cons_succ])
                refine wpAnyH_take (i := 16) (v := .agg #[.int .i64 p1, .int .i64 p2]) rfl (by kernel_rfl) (by kernel_rfl) (by kernel_rfl) (fun _ _ _ h => h) (Or.inl ⟨by rfl, ?_⟩) (by assumption) ?_
                · (intro w hSw; (try dsimp only at hSw); go_simp)
                (try simp only [Act.put, List.getElem_toArray, List.getElem_cons_succ, List.getElem_cons_zero, List.setIfInBounds_toArray, List.set_cons_zero, List.set_cons_succ])
                refine wpAnyH_ready (rs := [11]) (by kernel_rfl) (by simp) ?_
                refine AllReadyH.cons rfl (fun K hK => ?_) AllReadyH.nil
                go_simp
                with_reducible refine (CS3.out _ BX.out).mono ?_
                rintro e u1 ⟨rfl, b1⟩
                replace BX := hid (BX.out.trans (b1.mono BX.out.size))
                replace rg_y0 := keepc b1 rg_y0
                replace rg_y2 := keepc b1 rg_y2
                replace rg_v0 := keepc b1 rg_v0
                replace rg_v1_ := keepc b1 rg_v1_
                replace rg_m0 := keepc b1 rg_m0
                replace rg_m1 := keepc b1 rg_m1
                refine hK.out _ _ ⟨rg_y0, rg_y2, rg_v0, rg_v1_, rg_m0, rg_m1⟩ (fun hHeld => ?_)
                clear hK K
                (try simp only [Act.put, List.getElem_toArray, List.getElem_cons_succ, List.getElem_cons_zero, List.setIfInBounds_toArray, List.set_cons_zero, List.set_cons_succ])
                refine wpAnyH_ready (rs := [14]) (by kernel_rfl) (by simp) ?_
                refine AllReadyH.cons rfl (fun K hK => ?_) AllReadyH.nil
                go_simp
                with_reducible refine (CFI.out _ (TW.out _ BX.out)).mono ?_
                rintro e u2 ⟨rfl, b2⟩
                replace BX := hid (BX.out.trans (b2.mono BX.out.size))
                replace rg_y0 := keepc b2 rg_y0
                replace rg_y2 := keepc b2 rg_y2
                replace rg_v0 := keepc b2 rg_v0
                replace rg_v1_ := keepc b2 rg_v1_
                replace rg_m0 := keepc b2 rg_m0
                replace rg_m1 := keepc b2 rg_m1
                refine hK.out _ _ ⟨rg_y0, rg_y2, rg_v0, rg_v1_, rg_m0, rg_m1⟩ (fun hHeld => ?_)
                clear hK K
                (try simp only [Act.put, List.getElem_toArray, List.getElem_cons_succ, List.getElem_cons_zero, List.setIfInBounds_toArray, List.set_cons_zero, List.set_cons_succ])
                refine wpAnyH_take (i := 15) (v := .int .i64 k3) rfl (by kernel_rfl) (by kernel_rfl) (by kernel_rfl) (fun _ _ _ h => h) (Or.inl ⟨by rfl, ?_⟩) (by assumption) ?_
                · (intro w hSw; have hpf := run_wt8; (try dsimp only at hSw); go_simp)
                (try simp only [Act.put, List.getElem_toArray, List.getElem_cons_succ, List.getElem_cons_zero, List.setIfInBounds_toArray, List.set_cons_zero, List.set_cons_succ])
                refine wpAnyH_ready (rs := [17]) (by kernel_rfl) (by simp) ?_
                refine AllReadyH.cons rfl (fun K hK => ?_) AllReadyH.nil
                go_simp
                with_reducible refine (CLE.out _).mono ?_
                rintro e u3 ⟨rfl, b3⟩
                replace BX := hid (BX.out.trans (b3.mono BX.out.size))
                replace rg_y0 := keepc b3 rg_y0
                replace rg_y2 := keepc b3 rg_y2
                replace rg_v0 := keepc b3 rg_v0
                replace rg_v1_ := keepc b3 rg_v1_
                replace rg_m0 := keepc b3 rg_m0
                replace rg_m1 := keepc b3 rg_m1
                refine hK.out _ _ ⟨rg_y0, rg_y2, rg_v0, rg_v1_, rg_m0, rg_m1⟩ (fun hHeld => ?_)
                clear hK K
                (try simp only [Act.put, List.getElem_toArray, List.getElem_cons_succ, List.getElem_cons_zero, List.setIfInBounds_toArray, List.set_cons_zero, List.set_cons_succ])
                refine wpAnyH_take (i := 18) (v := .bool false) rfl (by kernel_rfl) (by kernel_rfl) (by kernel_rfl) (fun _ _ _ h => h) (Or.inl ⟨by rfl, ?_⟩) (by assumption) ?_
                · (intro w hSw; (try dsimp only at hSw); go_simp)
                (try simp only [Act.put, List.getElem_toArray, List.getElem_cons_succ, List.getElem_cons_zero, List.setIfInBounds_toArray, List.set_cons_zero, List.set_cons_succ])
                refine wpAnyH_take (i := 19) (v := .bool false) rfl (by kernel_rfl) (by kernel_rfl) (by kernel_rfl) (fun _ _ _ h => h) (Or.inl ⟨by rfl, ?_⟩) (by assumption) ?_
                · (intro w hSw; (try dsimp only at hSw); go_simp)
                (try simp only [Act.put, List.getElem_toArray, List.getElem_cons_succ, List.getElem_cons_zero, List.setIfInBounds_toArray, List.set_cons_zero, List.set_cons_succ])
                refine wpAnyH_take (i := 20) (v := .bool false) rfl (by kernel_rfl) (by kernel_rfl) (by kernel_rfl) (fun _ _ _ h => h) (Or.inl ⟨by rfl, ?_⟩) (by assumption) ?_
                · (intro w hSw; (try dsimp only at hSw); go_simp)
                (try simp only [Act.put, List.getElem_toArray, List.getElem_cons_succ, List.getElem_cons_zero, List.setIfInBounds_toArray, List.set_cons_zero, List.set_cons_succ])
                refine wpAnyH_done (by kernel_rfl) ?_ _
                clear hHeld rg_y0 rg_y2 rg_v0 rg_v1_ rg_m0 rg_m1
                have BE_ := hid (FW.out _ BX.out)
                clear b1 b2 b3
                go_wp2_with fail
                refine ⟨⟨k + 1, by omega, by go_num, by rw [DT3.out, HBE.out], by rw [DT3.out, HTE.out], BE_⟩, ?_⟩
                simp [intOf]; omega
    · obtain rfl : len = k := by omega
      have BE_ := hid (B4.out.trans (hB.out.mono B4.out.size))
      have e0 := HLl.out
      rw [e0] at CE
      rcases CE.out with ⟨h1, h2, h3⟩ | ⟨h1, h2, h3⟩
      · have tl : decide ((docT l us m p1 p2 len).1 < 0) = true := by simpa using h1
        have H2 := hid h2
        have H3_ := hid h3
        clear h1 h2 h3 CE
        generalize (docT l us m p1 p2 len).1 = BE at *
        generalize (docT l us m p1 p2 len).2 = TE at *
        go_wp2_with fail
        go_ret2
        exact ⟨ret2i H3_.out H2.out, BE_.out⟩
      · have tl : decide ((docT l us m p1 p2 len).1 < 0) = false := by simpa using h1
        have H2 := hid h2
        have H3_ := hid h3
        clear h1 h2 h3 CE
        generalize (docT l us m p1 p2 len).1 = BE at *
        generalize (docT l us m p1 p2 len).2 = TE at *
        go_wp2_with fail
        go_ret2
        exact ⟨ret2i H3_.out H2.out, BE_.out⟩
end Go.Proofs.YtdbkjcnanffibaaGreat

namespace Go.Proofs.YtdbkjcnanffibaaGreat
open Go.RowKit Go.Deep Go.Maps Go.Shelf
set_option linter.unusedVariables false
set_option linter.unusedSimpArgs false

set_option maxRecDepth 100000 in
set_option maxHeartbeats 2000000 in
theorem rchoose_any (a : Option Addr) (len cap : Nat) (l : List Qu) (b : Option Addr) (ln cp : Nat) (ls : List Le) (p1 p2 : Int) (w : World) (h : HoldsQ w a len cap l) (hok : ∀ q ∈ l, q.ok) (hl : HoldsL w b ln cp ls) (hlo : ∀ x ∈ ls, x.okB) (hn : ln * 80 ≤ 140737488355328) :
    Calls Tryz.prog 10 #[.slice a len cap, .slice b ln cp, .agg #[.int .i64 p1, .int .i64 p2]] w fun e w' => e = .returned (.tuple #[.int .i64 (chsT l ls p1 p2), .int .i64 (chsE l ls p1 p2)]) ∧ Below w.heap.size w w' := by
  have B0 : Hid (Below w.heap.size w (w.alloc (.cells #[.int .i64 p1, .int .i64 p2] 33))) := (Below.refl _ w).alloc (Nat.le_refl _) _
  have S1 := hid (fun W (hW : Below w.heap.size w W) => rsums8_any a len cap l b ln cp ls W (h.below hW) (hl.below hW) hlo (by omega))
  by_cases e1 : readE l ls = 0
  case neg =>
    have E : Hid (chsE l ls p1 p2 = readE l ls) := by unfold Hid chsE; rw [if_neg e1]
    have T : Hid (chsT l ls p1 p2 = 0) := by unfold Hid chsT; rw [if_neg (fun h => e1 h.1)]
    have t : (readE l ls != 0) = true := by simpa using e1
    clear e1 h hok hl hlo
    generalize readE l ls = RE at *
    go_enter Tryz.func10, Tryz.ntmps10
    go_wp2_with fail
    with_reducible refine (S1.out _ B0.out).mono ?_
    rintro e w1 ⟨v1, rfl, o1, b1⟩
    have B1 := hid (B0.out.trans (b1.mono B0.out.size))
    clear o1 b1
    go_wp2_with fail
    go_ret2
    exact ⟨ret2i T.out E.out, B1.out⟩
  by_cases e2 : chk p1 p2 = 0
  case neg =>
    have E : Hid (chsE l ls p1 p2 = 1) := by unfold Hid chsE; rw [if_pos e1, if_neg e2]
    have T : Hid (chsT l ls p1 p2 = 0) := by unfold Hid chsT; rw [if_neg (fun h => e2 h.2)]
    have hv : okv (p1, p2) = false := by
      cases hx : okv (p1, p2) with
      | false => rfl
      | true => exact absurd (chk_ok hx) e2
    have GO := hid (fun W => good_any p1 p2 W)
    rw [hv] at GO
    rw [e1] at S1
    have m0 : (w.alloc (.cells #[.int .i64 p1, .int .i64 p2] 33)).cell? ⟨w.heap.size, 0, none⟩ = some (.int .i64 p1) := by simp [go_sem]
    have m1 : (w.alloc (.cells #[.int .i64 p1, .int .i64 p2] 33)).cell? ⟨w.heap.size, 1, none⟩ = some (.int .i64 p2) := by simp [go_sem]
    clear e1 e2 hv h hok hl hlo
    go_enter Tryz.func10, Tryz.ntmps10
    go_wp2_with fail
    with_reducible refine (S1.out _ B0.out).mono ?_
    rintro e w1 ⟨v1, rfl, o1, b1⟩
    have B1 := hid (B0.out.trans (b1.mono B0.out.size))
    replace m0 := keepc b1 m0
    replace m1 := keepc b1 m1
    clear o1 b1
    go_wp2_with fail
    with_reducible refine (GO.out _).mono ?_
    rintro e w2 ⟨rfl, b2⟩
    have B2 := hid (B1.out.trans (b2.mono B1.out.size))
    clear b2
    go_wp2_with fail
    go_ret2
    exact ⟨ret2i T.out E.out, B2.out⟩
  clear S1 B0
  have hp : 0 < len := by rw [← h.1]; exact (chkE_ok.1 (readE_parts e1).1).2.1.1
  obtain ⟨lb, lo, rfl, _⟩ := h.row hp
  exact rchoose_good lb lo len cap l b ln cp ls p1 p2 w h hok hl hlo hn e1 e2
end Go.Proofs.YtdbkjcnanffibaaGreat
