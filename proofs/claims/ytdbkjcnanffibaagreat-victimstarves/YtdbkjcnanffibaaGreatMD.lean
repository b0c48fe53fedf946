/-
  The document's answers of victim: Uses.
  The document's answers of victim: sums of leases, live, yields.
  Contracts of victim: starves.
  Contracts of victim: Starved.
  The document's answers of victim: Starved.
-/
import Derived.Test.YtdbkjcnanffibaaGreatMB
import Derived.Test.YtdbkjcnanffibaaGreatRM
import Derived.Test.YtdbkjcnanffibaaGreatRN
import Derived.Test.YtdbkjcnanffibaaGreatMA
import Derived.BigQuiet
import Derived.Deep.QuietTactic
import Derived.Deep.Cut
import Derived.Test.YtdbkjcnanffibaaGreatRO
import Derived.Test.YtdbkjcnanffibaaGreatRP
namespace Go.Proofs.YtdbkjcnanffibaaGreat
open Go.RowKit Go.Deep Go.Maps Go.Shelf
set_option linter.unusedVariables false
set_option linter.unusedSimpArgs false

theorem gd_is {x : Le} : x.gd = (decide (x.sl ≤ 64) && decide (0 ≤ x.me ∧ x.me ≤ 1099511627776)) := by
  unfold Le.gd
  by_cases h : x.sl ≤ 64
  · rw [decide_eq_true h, Bool.true_and, Bool.true_and]
    unfold okv okp
    apply decide_eq_decide.2
    simp only
    omega
  · rw [decide_eq_false h]; rfl
theorem gd_me {l : List Le} (hg : gdB l = true) {x : Le} (hx : x ∈ l) : x.me ≤ 1099511627776 := by
  unfold gdB at hg
  rw [List.all_eq_true] at hg
  have := hg x hx
  unfold Le.gd at this
  rw [Bool.and_eq_true] at this
  exact (okv_true this.2).2.2
theorem cm_min (s : Int) : cm s = min s 1099511627777 := by unfold cm; split <;> omega
theorem gd_sl {l : List Le} (hg : gdB l = true) {x : Le} (hx : x ∈ l) : x.sl ≤ 64 := by
  unfold gdB at hg
  rw [List.all_eq_true] at hg
  have := hg x hx
  unfold Le.gd at this
  rw [Bool.and_eq_true] at this
  exact of_decide_eq_true this.1
set_option maxRecDepth 100000 in
set_option maxHeartbeats 8000000 in
theorem ruses_any (a : Option Addr) (len cap : Nat) (l : List Le) (w : World) (h : HoldsL w a len cap l) (hok : ∀ x ∈ l, x.okB) (hn : len * 64 ≤ 140737488355328) :
    Calls Tryz.prog 36 #[.slice a len cap] w fun e w' => ∃ v, e = .returned (.tuple #[v, .int .i64 (useErr l)]) ∧ OwnE 44 3 Us.cs w.heap.size w' v (uvL l).length (uvL l) ∧ Below w.heap.size w w' := by
  have HQ := hid h
  have HL := hid h.1.1
  have hcap := h.1.2.1
  have hcm := h.1.2.2.1
  have HO := hid hok
  clear h hok
  go_enter Tryz.func36, Tryz.ntmps36
  go_wp2_with fail
  go_loopw [4, 15] (fun s i wr => ∃ k : Nat, k ≤ len ∧ i = .int .i64 (k : Int) ∧ Hid (OwnN w.heap.size wr s (idsT l k).length (idsT l k)) ∧ Hid (∀ j, j < k → (la l j).gd = true) ∧ Hid (Below w.heap.size w wr)) (fun s i _ => len - (intOf i).toNat)
  case atStart => exact ⟨0, by omega, rfl, OwnE.nil _ _ _ _ _, fun j hj => absurd hj (by omega), Below.refl _ _⟩
  case round =>
    obtain ⟨k, hk, rfl, hO, hall, hB⟩ := hrel
    by_cases hlt : k < len
    · have hlt' : k < l.length := by rw [HL.out]; exact hlt
      obtain ⟨b, off, rfl, hbl, Rw⟩ := HQ.out.1.rowL (by omega)
      obtain ⟨d1, d2, d3, d4, d5, d6, d7, d8⟩ := Rw k hlt
      have c1 := keepc hB.out d1
      have c2 := keepc hB.out d2
      have c3 := keepc hB.out d3
      have c4 := keepc hB.out d4
      have c5 := keepc hB.out d5
      have c6 := keepc hB.out d6
      have c7 := keepc hB.out d7
      have c8 := keepc hB.out d8
      have ka : (0 : Int) ≤ (k : Int) := by omega
      have kb : (k : Int) < (len : Int) := by omega
      clear d1 d2 d3 d4 d5 d6 d7 d8 Rw
      have GD := hid (gd_is (x := la l k))
      have BAD := hid (fun (e : (la l k).gd = false) => useErr_bad hlt' e)
      have IN := hid (fun (e : hasN (idsT l k) (la l k).qu = true) => idsT_in HO.out hlt' e)
      have OU := hid (fun (e : hasN (idsT l k) (la l k).qu = false) => idsT_out (l := l) (k := k) e)
      have UB : useErr l = 1 → uvL l = [] := fun e => by unfold uvL; rw [if_neg (by rw [e]; decide)]
      have HUB := hid UB
      clear UB
      have hil := idsT_len l k
      obtain ⟨ia, ic, rfl⟩ := hO.out.form
      have HI := hid (hO.out.holds encN_len)
      generalize hx : la l k = x at *
      have HX := hid hx
      clear hx
      obtain ⟨x1, x2, x3, sa, sl, sc, x5, x6, x7, x8, co⟩ := x
      simp only at c1 c2 c3 c4 c5 c6 c7 c8 GD IN OU
      have HH := hid (fun W (hW : Below wr.heap.size wr W) => hasN_any ia (idsT l k).length ic (idsT l k) x2 W (HI.out.below hW) (by omega))
      have HR := hid (fun W (hW : Below wr.heap.size wr W) => rinsert_any ia (idsT l k).length ic (idsT l k) x2 W (HI.out.below hW) (by omega))
      have BA := hid ((Below.refl wr.heap.size wr).alloc (Nat.le_refl _) (.cells #[.int .i64 x1, .int .i64 x2, .int .i64 x3, .slice sa sl sc, .int .i64 x5, .int .i64 x6, .int .i64 x7, .bool x8] 42))
      have a2 : (wr.alloc (.cells #[.int .i64 x1, .int .i64 x2, .int .i64 x3, .slice sa sl sc, .int .i64 x5, .int .i64 x6, .int .i64 x7, .bool x8] 42)).cell? ⟨wr.heap.size, 1, none⟩ = some (.int .i64 x2) := by simp [go_sem]
      generalize hln : (idsT l k).length = ln at *
      have HLN := hid hln
      clear hln HI
      cases hg : (⟨x1, x2, x3, sa, sl, sc, x5, x6, x7, x8, co⟩ : Le).gd with
      | false =>
        have ER := hid (BAD.out hg)
        have UV := hid (HUB.out ER.out)
        rw [hg] at GD
        clear hall IN OU BAD HUB HX HLN a2 hg hil
        by_cases t1 : x5 < 0
        · go_wp2_with fail
          go_ret2
          exact ⟨_, ret_u ER.out, by rw [UV.out]; exact OwnE.nil _ _ _ _ _, hB.out.trans (BA.out.mono hB.out.size)⟩
        · by_cases t2 : 1099511627776 < x5
          · go_wp2_with fail
            go_ret2
            exact ⟨_, ret_u ER.out, by rw [UV.out]; exact OwnE.nil _ _ _ _ _, hB.out.trans (BA.out.mono hB.out.size)⟩
          · have t3 : (64 : Int) < (sl : Int) := by
              have h1 := GD.out.symm
              rw [Bool.and_eq_false_iff, decide_eq_false_iff_not, decide_eq_false_iff_not] at h1
              omega
            go_wp2_with fail
            go_ret2
            exact ⟨_, ret_u ER.out, by rw [UV.out]; exact OwnE.nil _ _ _ _ _, hB.out.trans (BA.out.mono hB.out.size)⟩
      | true =>
        have h1 := GD.out.symm
        rw [hg, Bool.and_eq_true, decide_eq_true_eq, decide_eq_true_eq] at h1
        obtain ⟨g1, g2, g3⟩ := h1
        have AL : Hid (∀ j, j < k + 1 → (la l j).gd = true) := fun j hj => by
          rcases Nat.lt_or_ge j k with h | h
          · exact hall.out j h
          · obtain rfl : j = k := by omega
            rw [HX.out]; exact hg
        clear hall BAD HUB HX GD hg
        cases hh : hasN (idsT l k) x2 with
        | true =>
          have E := hid (IN.out hh)
          rw [hh] at HH
          clear IN OU HR hh
          go_wp2_with fail
          refine (HH.out _ BA.out).mono ?_
          rintro e w1 ⟨rfl, rfl⟩
          have BX := hid BA.out
          clear HH
          go_wp2_with fail
          refine ⟨⟨k + 1, by omega, by go_num, by unfold Hid; rw [E.out, HLN.out]; exact hO.out.below BX.out, AL, hB.out.trans (BX.out.mono hB.out.size)⟩, ?_⟩
          simp [intOf]; omega
        | false =>
          have E := hid (OU.out hh)
          rw [hh] at HH
          clear IN OU hh
          go_wp2_with fail
          refine (HH.out _ BA.out).mono ?_
          rintro e w1 ⟨rfl, rfl⟩
          have BX := hid BA.out
          clear HH
          go_wp2_with fail
          refine (HR.out _ BX.out).mono ?_
          rintro e w2 ⟨v2, rfl, o2, b2⟩
          have BY := hid (BX.out.trans (b2.mono BX.out.size))
          have O2 := hid (o2.weaken (b' := w.heap.size) (Nat.le_trans hB.out.size BX.out.size))
          clear o2 b2 HR
          go_wp2_with fail
          refine ⟨⟨k + 1, by omega, by go_num, by unfold Hid; rw [← E.out]; exact O2.out, AL, hB.out.trans (BY.out.mono hB.out.size)⟩, ?_⟩
          simp [intOf]; omega
    · obtain rfl : k = len := by omega
      have e0 := HL.out
      subst e0
      have GB := hid (gdB_at (fun j hj => hall.out j hj))
      obtain ⟨ia, ic, rfl⟩ := hO.out.form
      have HI := hid (hO.out.holds encN_len)
      have RT := hid (riseT HO.out (Nat.le_refl l.length))
      have hil := idsT_len l l.length
      have VS := hid hB.out
      have PO := hid (fun q {k : Nat} (hk : k ≤ l.length) => useT_pos GB.out q hk)
      clear hall hO hB
      have UVL : Hid (useErr l = 0 → uvL l = usesOf (fun q => useT l q l.length) (idsT l l.length)) := fun e => by rw [uvL_yes e]; rfl
      have UVN : Hid (useErr l = 2 → uvL l = []) := fun e => by unfold uvL; rw [if_neg (by rw [e]; decide)]
      have FIN : Hid ((∀ q ∈ idsT l l.length, okv (useT l q l.length) = true) → useErr l = 0) := fun hq => useErr_fine GB.out hq HO.out
      have OVR := hid (fun q (h : okv (useT l q l.length) = false) => useErr_over GB.out h)
      have GDA := hid (fun x (hx : x ∈ l) => gd_pos GB.out x hx)
      generalize idsT l l.length = ids at *
      generalize hn' : ids.length = n at *
      have HN := hid hn'
      clear hn'
      rename World => w0
      go_wp2_with fail
      go_loopw [7, 45] (fun s i wr => ∃ j : Nat, j ≤ n ∧ i = .int .i64 (j : Int) ∧ Hid (OwnE 44 3 Us.cs w0.heap.size wr s j (usesOf (fun q => useT l q l.length) (ids.take j))) ∧ Hid (∀ m, m < j → okv (useT l (ids[m]?.getD 0) l.length) = true) ∧ Hid (Below w0.heap.size w0 wr)) (fun s i _ => n - (intOf i).toNat)
      case atStart => exact ⟨0, by omega, rfl, OwnE.nil _ _ _ _ _, fun j hj => absurd hj (by omega), Below.refl _ _⟩
      case round =>
        obtain ⟨j, hj, rfl, hO, hall, hB⟩ := hrel
        by_cases hlt : j < n
        · have hlt' : j < ids.length := by rw [HN.out]; exact hlt
          obtain ⟨ib, io, rfl, RI⟩ := HI.out.rowN (by omega)
          have c0 := keepc hB.out (RI j hlt)
          have SN := hid (usesOf_snoc (fun q => useT l q l.length) hlt')
          have hmem : Hid (ids[j]?.getD 0 ∈ ids) := by unfold Hid; rw [List.getElem?_eq_getElem hlt']; exact List.getElem_mem hlt'
          have ka : (0 : Int) ≤ (j : Int) := by omega
          have kb : (j : Int) < (n : Int) := by omega
          have kc : (n : Int) ≤ 9223372036854775807 := by omega
          clear RI
          obtain ⟨q, hq⟩ : ∃ q, ids[j]?.getD 0 = q := ⟨_, rfl⟩
          rw [hq] at c0 SN hmem
          have QJ := hid hq
          clear hq
          rename World => WR
          go_wp2_with fail
          go_loopw [53] (fun i w2 => ∃ k2 : Nat, k2 ≤ l.length ∧ i = .int .i64 (k2 : Int) ∧ Hid (Below WR.heap.size WR w2) ∧ Hid (w2.cell? ⟨WR.heap.size, 0, none⟩ = some (.int .i64 q)) ∧ Hid (w2.cell? ⟨WR.heap.size, 1, none⟩ = some (.int .i64 (cm (useT l q k2).1))) ∧ Hid (w2.cell? ⟨WR.heap.size, 2, none⟩ = some (.int .i64 (cm (useT l q k2).2))) ∧ Hid (∀ j, w2.frozen? ⟨WR.heap.size, j, none⟩ = false)) (fun i _ => l.length - (intOf i).toNat)
          case atStart => exact ⟨0, by omega, rfl, (Below.refl _ WR).alloc (Nat.le_refl _) _, by simp [Hid, go_sem], by simp [Hid, go_sem]; rfl, by simp [Hid, go_sem]; rfl, fun j => by simp [go_sem]⟩
          case round =>
            obtain ⟨k2, hk2, rfl, hBW, hq0, hq1, hq2, hfz⟩ := hrel
            have hsz := hBW.out.size
            have ltS := cell_lt hq0.out
            simp only at ltS
            by_cases hlt2 : k2 < l.length
            · obtain ⟨b, off, rfl, hbl, Rw⟩ := HQ.out.1.rowL (by omega)
              obtain ⟨d1, d2, d3, d4, d5, d6, d7, d8⟩ := Rw k2 hlt2
              have hBw2 := (VS.out.trans (hB.out.mono VS.out.size))
              replace hBw2 := hBw2.trans (hBW.out.mono hBw2.size)
              have c1 := keepc hBw2 d1
              have c2 := keepc hBw2 d2
              have c3 := keepc hBw2 d3
              have c4 := keepc hBw2 d4
              have c5 := keepc hBw2 d5
              have c6 := keepc hBw2 d6
              have c7 := keepc hBw2 d7
              have c8 := keepc hBw2 d8
              have k2a : (0 : Int) ≤ (k2 : Int) := by omega
              have k2b : (k2 : Int) < (l.length : Int) := by omega
              clear d1 d2 d3 d4 d5 d6 d7 d8 Rw hBw2
              have NX := hid (useT_cons l q k2)
              obtain ⟨nc, nm⟩ := PO.out q hk2
              have hme := GDA.out _ (la_mem hlt2)
              have hsl := gd_sl GB.out (la_mem hlt2)
              have hmx := gd_me GB.out (la_mem hlt2)
              generalize hx : la l k2 = x at *
              clear hx
              obtain ⟨x1, x2, x3, sa, sl, sc, x5, x6, x7, x8, co⟩ := x
              simp only at c1 c2 c3 c4 c5 c6 c7 c8 NX hme hsl hmx
              obtain ⟨C, hC⟩ : ∃ C, C = (useT l q k2).1 := ⟨_, rfl⟩
              obtain ⟨M, hM⟩ : ∃ M, M = (useT l q k2).2 := ⟨_, rfl⟩
              have NE : Hid (useT l q k2 = (C, M)) := by unfold Hid; rw [hC, hM]
              rw [NE.out] at NX
              rw [← hC] at hq1 nc
              rw [← hM] at hq2 nm
              clear hC hM
              have CA := hid (cm_add nc (Int.natCast_nonneg sl))
              have MA := hid (cm_add nm hme)
              obtain ⟨lc1, lc2⟩ := cm_le nc
              obtain ⟨lm1, lm2⟩ := cm_le nm
              have ab := (Below.refl wr.heap.size wr).alloc (Nat.le_refl _) (.cells #[.int .i64 x1, .int .i64 x2, .int .i64 x3, .slice sa sl sc, .int .i64 x5, .int .i64 x6, .int .i64 x7, .bool x8] 42)
              have B3 := hid (hBW.out.alloc hBW.out.size (.cells #[.int .i64 x1, .int .i64 x2, .int .i64 x3, .slice sa sl sc, .int .i64 x5, .int .i64 x6, .int .i64 x7, .bool x8] 42))
              have s0 := keepc ab hq0.out
              have s1 := keepc ab hq1.out
              have s2 := keepc ab hq2.out
              have G0 : Hid (∀ j, (wr.alloc (.cells #[.int .i64 x1, .int .i64 x2, .int .i64 x3, .slice sa sl sc, .int .i64 x5, .int .i64 x6, .int .i64 x7, .bool x8] 42)).frozen? ⟨WR.heap.size, j, none⟩ = false) := fun j => by rw [ab.frozen (p := ⟨WR.heap.size, j, none⟩) ltS]; exact hfz.out j
              have g1 := G0.out 1
              have g2 := G0.out 2
              have hne : WR.heap.size ≠ wr.heap.size := by omega
              clear ab hq0 hq1 hq2 hfz
              by_cases e : x2 = q
              · subst e
                rw [if_pos rfl] at NX
                generalize hcc : cm C = cC at *
                generalize hmm : cm M = cM at *
                go_upto_region 18 with fail
                clear c1 c2 c3 c4 c5 c6 c7 c8
                have y3 : (wr.alloc (.cells #[.int .i64 x1, .int .i64 x2, .int .i64 x3, .slice sa sl sc, .int .i64 x5, .int .i64 x6, .int .i64 x7, .bool x8] 42)).cell? ⟨wr.heap.size, 3, none⟩ = some (.slice sa sl sc) := by simp [go_sem]
                have y4 : (wr.alloc (.cells #[.int .i64 x1, .int .i64 x2, .int .i64 x3, .slice sa sl sc, .int .i64 x5, .int .i64 x6, .int .i64 x7, .bool x8] 42)).cell? ⟨wr.heap.size, 4, none⟩ = some (.int .i64 x5) := by simp [go_sem]
                have y1 : (wr.alloc (.cells #[.int .i64 x1, .int .i64 x2, .int .i64 x3, .slice sa sl sc, .int .i64 x5, .int .i64 x6, .int .i64 x7, .bool x8] 42)).cell? ⟨wr.heap.size, 1, none⟩ = some (.int .i64 x2) := by simp [go_sem]
                generalize (wr.alloc (.cells #[.int .i64 x1, .int .i64 x2, .int .i64 x3, .slice sa sl sc, .int .i64 x5, .int .i64 x6, .int .i64 x7, .bool x8] 42)) = w6 at *
                generalize hXB : wr.heap.size = XB at *
                go_wp2
                go_roundw
                case rel =>
                  refine ⟨k2 + 1, by omega, by go_num, (B3.out.setCell (p := ⟨WR.heap.size, 1, none⟩) (by simp) _).setCell (p := ⟨WR.heap.size, 2, none⟩) (by simp) _, ?_, ?_, ?_, fun j => by simp; exact G0.out j⟩
                  · simp [Hid, go_sem, s0]
                  · rw [NX.out]; simp only; rw [← CA.out, cm_min]; simp [Hid, go_sem, s1]
                  · rw [NX.out]; simp only; rw [← MA.out, cm_min]; simp [Hid, go_sem, s2]
                case measure => simp [intOf]; omega
              · rw [if_neg e] at NX
                have te : (x2 == q) = false := by simpa using e
                go_wp2
                go_roundw
                case rel =>
                  refine ⟨k2 + 1, by omega, by go_num, B3, s0, ?_, ?_, G0⟩
                  · rw [NX.out]; exact s1
                  · rw [NX.out]; exact s2
                case measure => simp [intOf]; omega
            · obtain rfl : k2 = l.length := by omega
              obtain ⟨nc, nm⟩ := PO.out q hk2
              have OC := hid (okv_cm nc nm)
              have OV := hid (OVR.out q)
              have SM : Hid (okv (useT l q l.length) = true → (cm (useT l q l.length).1, cm (useT l q l.length).2) = useT l q l.length) := fun h => by
                obtain ⟨o1, o2⟩ := okv_true h
                rw [cm_same o1, cm_same o2]
              generalize hU : useT l q l.length = U at *
              have HU := hid hU
              clear hU
              obtain ⟨u1, u2⟩ := U
              simp only at hq1 hq2 OC SM nc nm
              have s0 := hq0.out
              have s1 := hq1.out
              have s2 := hq2.out
              have GO := hid (fun W => good_any (cm u1) (cm u2) W)
              rw [OC.out] at GO
              generalize cm u1 = v1 at *
              generalize cm u2 = v2 at *
              cases ho : okv (u1, u2) with
              | false =>
                have ER := hid (OV.out ho)
                have UV := hid (UVN.out ER.out)
                rw [ho] at GO
                clear ho
                go_wp2_with fail
                refine (GO.out _).mono ?_
                rintro e w2 ⟨rfl, b2⟩
                have hBw2 := (VS.out.trans (hB.out.mono VS.out.size))
                replace hBw2 := hBw2.trans (hBW.out.mono hBw2.size)
                have BE := hid (hBw2.trans (b2.mono hBw2.size))
                clear hBw2 b2
                go_wp2_with fail
                go_ret2
                exact ⟨_, ret_u ER.out, by rw [UV.out]; exact OwnE.nil _ _ _ _ _, BE.out⟩
              | true =>
                have SV := hid (SM.out ho)
                rw [ho] at GO
                have HO := hid ho
                clear ho
                go_wp2_with fail
                refine (GO.out _).mono ?_
                rintro e w2 ⟨rfl, b2⟩
                have B2 := hid (hBW.out.trans (b2.mono hBW.out.size))
                replace s0 := keepc b2 s0
                replace s1 := keepc b2 s1
                replace s2 := keepc b2 s2
                have O2 := hid (hO.out.below B2.out)
                clear b2 GO hO
                have hbs := hid (hB.out.trans (B2.out.mono hB.out.size))
                go_wp2_with (at_builtin; refine push_ownE 24 44 _ 24 Us.cs_len Us.one Tryz.underlying24 infoUse rfl (by decide) w2 ⟨q, v1, v2⟩ rfl (.tmp 85) (.tmp 87) rfl w0.heap.size j u7 _ _ rfl rfl O2.out hbs.out.size (by simp [Act.eval]) (by omega) (by omega) ?_)
                intro v' w3 h1 h2 _
                have O1 := hid h1
                have hB1 := hid (hbs.out.trans h2)
                clear h1 h2
                go_wp2_with fail
                refine ⟨⟨j + 1, by omega, by go_num, ?_, ?_, hB1⟩, ?_⟩
                · unfold Hid
                  have e := SV.out
                  cases e
                  have e2 := SN.out
                  try simp only at e2
                  rw [e2]
                  exact O1.out
                · intro m hm
                  rcases Nat.lt_or_ge m j with h | h
                  · exact hall.out m h
                  · obtain rfl : m = j := by omega
                    rw [QJ.out, HU.out]; exact HO.out
                · simp [intOf]; omega
        · obtain rfl : j = n := by omega
          have ER := hid (FIN.out (fun q hq => by
            obtain ⟨m, hm, rfl⟩ := List.mem_iff_getElem.1 hq
            have := hall.out m (by rw [← HN.out]; exact hm)
            rw [List.getElem?_eq_getElem hm] at this
            exact this))
          have UV := hid (UVL.out ER.out)
          have TK : Hid (ids.take j = ids) := List.take_of_length_le (by rw [HN.out]; exact Nat.le_refl _)
          have OE := hO.out
          rw [TK.out] at OE
          have OF := hid (OE.weaken VS.out.size)
          clear OE
          go_wp2_with fail
          go_ret2
          refine ⟨_, ret_u ER.out, ?_, VS.out.trans (hB.out.mono VS.out.size)⟩
          rw [UV.out, usesOf_len, HN.out]
          exact OF.out
end Go.Proofs.YtdbkjcnanffibaaGreat

namespace Go.Proofs.YtdbkjcnanffibaaGreat
open Go.RowKit Go.Deep Go.Maps Go.Shelf
set_option linter.unusedVariables false
set_option linter.unusedSimpArgs false

set_option maxRecDepth 100000 in
set_option maxHeartbeats 4000000 in
theorem rlive_any (a : Option Addr) (len cap : Nat) (l : List Le) (w : World) (h : HoldsL w a len cap l) (hn : len * 80 ≤ 140737488355328) :
    Calls Tryz.prog 26 #[.slice a len cap] w fun e w' => ∃ v, e = .returned v ∧ OwnE 42 8 Le.cs w.heap.size w' v (lastL l).length (lastL l) ∧ Below w.heap.size w w' := by
  have HQ := hid h
  have HL := hid h.1.1
  have hcap := h.1.2.1
  have hcm := h.1.2.2.1
  clear h
  go_enter Tryz.func26, Tryz.ntmps26
  go_wp2_with fail
  go_loopw [3, 8] (fun s i wr => ∃ k : Nat, k ≤ len ∧ i = .int .i64 (k : Int) ∧ Hid (OwnE 42 8 Le.cs w.heap.size wr s (lastT l k).length (lastT l k)) ∧ Hid (Below w.heap.size w wr)) (fun s i _ => len - (intOf i).toNat)
  case atStart => exact ⟨0, by omega, rfl, OwnE.nil _ _ _ _ _, Below.refl _ _⟩
  case round =>
    obtain ⟨k, hk, rfl, hO, hB⟩ := hrel
    by_cases hlt : k < len
    · have hlt' : k < l.length := by rw [HL.out]; exact hlt
      obtain ⟨b, off, rfl, hbl, Rw⟩ := HQ.out.1.rowL (by omega)
      obtain ⟨d1, d2, d3, d4, d5, d6, d7, d8⟩ := Rw k hlt
      have c1 := keepc hB.out d1
      have c2 := keepc hB.out d2
      have c3 := keepc hB.out d3
      have c4 := keepc hB.out d4
      have c5 := keepc hB.out d5
      have c6 := keepc hB.out d6
      have c7 := keepc hB.out d7
      have c8 := keepc hB.out d8
      have ka : (0 : Int) ≤ (k : Int) := by omega
      have kb : (k : Int) < (len : Int) := by omega
      have NX : Hid (lastT l (k + 1) = if (la l k).st = true then lastT l k else lastT l k ++ [la l k]) := rfl
      have hle := lastT_le (l := l) k
      clear d1 d2 d3 d4 d5 d6 d7 d8 Rw
      generalize hx : la l k = x at *
      have HX := hid hx
      clear hx
      generalize hln : (lastT l k).length = ln at *
      have HLN := hid hln
      clear hln
      obtain ⟨x1, x2, x3, sa, sl, sc, x5, x6, x7, x8, co⟩ := x
      simp only at c1 c2 c3 c4 c5 c6 c7 c8 NX
      cases x8
      · have NX2 : Hid (lastT l (k + 1) = lastT l k ++ [⟨x1, x2, x3, sa, sl, sc, x5, x6, x7, false, co⟩]) := by unfold Hid; rw [NX.out]; simp
        have BX := hid (hB.out.alloc hB.out.size (.cells #[.int .i64 x1, .int .i64 x2, .int .i64 x3, .slice sa sl sc, .int .i64 x5, .int .i64 x6, .int .i64 x7, .bool false] 42))
        have OX := hid (hO.out.below ((Below.refl wr.heap.size wr).alloc (Nat.le_refl _) (.cells #[.int .i64 x1, .int .i64 x2, .int .i64 x3, .slice sa sl sc, .int .i64 x5, .int .i64 x6, .int .i64 x7, .bool false] 42)))
        clear NX hO
        go_wp2_with (at_builtin; refine push_ownE 23 42 _ 80 Le.cs_len Le.one Tryz.underlying23 infoLe rfl (by decide) (wr.alloc (.cells #[.int .i64 x1, .int .i64 x2, .int .i64 x3, .slice sa sl sc, .int .i64 x5, .int .i64 x6, .int .i64 x7, .bool false] 42)) (⟨x1, x2, x3, sa, sl, sc, x5, x6, x7, false, co⟩ : Le) rfl (.tmp 15) (.tmp 17) rfl w.heap.size ln u3 _ _ rfl rfl OX.out BX.out.size (by simp [Act.eval]) (by omega) (by omega) ?_)
        intro v' w1 h1 h2 _
        have O1 := hid h1
        have hB1 := hid (BX.out.trans h2)
        clear h1 h2
        go_wp2_with fail
        refine ⟨⟨k + 1, by omega, by go_num, by unfold Hid; rw [NX2.out, List.length_append, HLN.out]; exact O1.out, hB1⟩, ?_⟩
        simp [intOf]; omega
      · have NX2 : Hid (lastT l (k + 1) = lastT l k) := by unfold Hid; rw [NX.out]; simp
        have BX := hid (hB.out.alloc hB.out.size (.cells #[.int .i64 x1, .int .i64 x2, .int .i64 x3, .slice sa sl sc, .int .i64 x5, .int .i64 x6, .int .i64 x7, .bool true] 42))
        have OX := hid (hO.out.below ((Below.refl wr.heap.size wr).alloc (Nat.le_refl _) (.cells #[.int .i64 x1, .int .i64 x2, .int .i64 x3, .slice sa sl sc, .int .i64 x5, .int .i64 x6, .int .i64 x7, .bool true] 42)))
        clear NX hO
        go_wp2_with fail
        refine ⟨⟨k + 1, by omega, by go_num, by unfold Hid; rw [NX2.out, HLN.out]; exact OX.out, BX⟩, ?_⟩
        simp [intOf]; omega
    · obtain rfl : k = len := by omega
      have O : Hid (OwnE 42 8 Le.cs w.heap.size wr u3 (lastL l).length (lastL l)) := by unfold Hid lastL; rw [HL.out]; exact hO.out
      clear hO
      go_wp2_with fail
      go_ret
      exact ⟨_, rfl, O.out, hB.out⟩

/-- The sums of queues by leases. -/
def vecsL (l : List Qu) (ls : List Le) : List (Int × Int) := if readE l ls = 0 then vecsTo l (useV ls) l.length else []
theorem vecsL_no {l : List Qu} {ls : List Le} (h : readE l ls ≠ 0) : vecsL l ls = [] := by unfold vecsL; rw [if_neg h]
theorem vecsL_sums {l : List Qu} {ls : List Le} (h1 : chkE l = 0) (h2 : useErr ls = 0) : readE l ls = sumsE l (uvL ls) ∧ vecsL l ls = sumsR l (uvL ls) := by
  have e : readE l ls = sumsE l (useV ls) := by unfold readE; rw [if_pos h1, if_pos h2]
  rw [uvL_yes h2]
  refine ⟨e, ?_⟩
  unfold vecsL sumsR
  rw [e]

set_option maxRecDepth 100000 in
set_option maxHeartbeats 2000000 in
theorem rsums8_any (a : Option Addr) (len cap : Nat) (l : List Qu) (b : Option Addr) (ln cp : Nat) (ls : List Le) (w : World) (h : HoldsQ w a len cap l) (hl : HoldsL w b ln cp ls) (hlo : ∀ x ∈ ls, x.okB) (hn : ln * 64 ≤ 140737488355328) :
    Calls Tryz.prog 15 #[.slice a len cap, .slice b ln cp] w fun e w' => ∃ v, e = .returned (.tuple #[v, .int .i64 (readE l ls)]) ∧ OwnV w.heap.size w' v (vecsL l ls).length (vecsL l ls) ∧ Below w.heap.size w w' := by
  have CK := hid (rcheckq_any a len cap l w h)
  have RU := hid (fun W (hW : Below w.heap.size w W) => ruses_any b ln cp ls W (hl.below hW) hlo hn)
  have RS := hid (fun ub n uc W (hW : Below w.heap.size w W) (hu : HoldsU W ub n uc (uvL ls)) => rsums_any a len cap l ub n uc (uvL ls) W (h.below hW) hu)
  clear h hl hlo
  by_cases e1 : chkE l = 0
  case neg =>
    have E : Hid (readE l ls = chkE l) := by unfold Hid readE; rw [if_neg e1]
    have V := hid (vecsL_no (l := l) (ls := ls) (by rw [E.out]; exact e1))
    have t : (chkE l != 0) = true := by simpa using e1
    clear e1
    generalize chkE l = CE at *
    go_enter Tryz.func15, Tryz.ntmps15
    go_wp2_with fail
    refine CK.out.mono ?_
    rintro e w1 ⟨rfl, b1⟩
    go_wp2_with fail
    go_ret2
    exact ⟨_, ret_u E.out, by rw [V.out]; exact OwnE.nil _ _ _ _ _, b1⟩
  by_cases e2 : useErr ls = 0
  case neg =>
    have E : Hid (readE l ls = useErr ls) := by unfold Hid readE; rw [if_pos e1, if_neg e2]
    have V := hid (vecsL_no (l := l) (ls := ls) (by rw [E.out]; exact e2))
    have t : (useErr ls != 0) = true := by simpa using e2
    rw [e1] at CK
    clear e1 e2
    generalize useErr ls = UE at *
    go_enter Tryz.func15, Tryz.ntmps15
    go_wp2_with fail
    refine CK.out.mono ?_
    rintro e w1 ⟨rfl, b1⟩
    have B1 := hid b1
    clear b1
    go_wp2_with fail
    refine (RU.out _ B1.out).mono ?_
    rintro e w2 ⟨v2, rfl, o2, b2⟩
    have B2 := hid (B1.out.trans (b2.mono B1.out.size))
    clear o2 b2
    go_wp2_with fail
    go_ret2
    exact ⟨_, ret_u E.out, by rw [V.out]; exact OwnE.nil _ _ _ _ _, B2.out⟩
  have EV := hid (vecsL_sums e1 e2)
  rw [e1] at CK
  rw [e2] at RU
  clear e1 e2
  go_enter Tryz.func15, Tryz.ntmps15
  go_wp2_with fail
  refine CK.out.mono ?_
  rintro e w1 ⟨rfl, b1⟩
  have B1 := hid b1
  clear b1
  go_wp2_with fail
  refine (RU.out _ B1.out).mono ?_
  rintro e w2 ⟨v2, rfl, o2, b2⟩
  have B2 := hid (B1.out.trans (b2.mono B1.out.size))
  obtain ⟨ua_, uc_, rfl⟩ := o2.form
  have S2 := hid (RS.out _ _ _ _ B2.out (o2.holds Us.cs_len))
  clear o2 b2 RU RS CK
  generalize sumsE l (uvL ls) = SE at *
  generalize sumsR l (uvL ls) = SR at *
  go_wp2_with fail
  refine S2.out.mono ?_
  rintro e w3 ⟨v3, rfl, o3, b3⟩
  have B3 := hid (B2.out.trans (b3.mono B2.out.size))
  have O3 := hid (o3.weaken B2.out.size)
  clear o3 b3 S2
  go_wp2_with fail
  go_ret2
  exact ⟨_, ret_u EV.out.1, by rw [EV.out.2]; exact O3.out, B3.out⟩

set_option maxHeartbeats 2000000 in
theorem ryields_any (q1 q2 q3 q4 q5 q6 q7 v1 v2 x1 x2 x3 x5 x6 x7 : Int) (sa : Option Addr) (sl sc : Nat) (x8 : Bool) (w : World) (hv : okv (v1, v2) = true) (hs : sl ≤ 64) (hm : 0 ≤ x5 ∧ x5 ≤ 1099511627776) :
    Calls Tryz.prog 27 #[.agg #[.int .i64 q1, .int .i64 q2, .int .i64 q3, .int .i64 q4, .int .i64 q5, .int .i64 q6, .int .i64 q7], .agg #[.int .i64 v1, .int .i64 v2], .agg #[.int .i64 x1, .int .i64 x2, .int .i64 x3, .slice sa sl sc, .int .i64 x5, .int .i64 x6, .int .i64 x7, .bool x8]] w fun e w' => e = .returned (.bool (fitB q6 q7 (v1 - (sl : Int)) (v2 - x5))) ∧ Below w.heap.size w w' := by
  obtain ⟨⟨a1, a2⟩, a3, a4⟩ := okv_true hv
  simp only at a1 a2 a3 a4
  have FI := hid (fun W => rfits_any q6 q7 (v1 - (sl : Int)) (v2 - x5) W)
  have k1 : IntKind.i64.wrap (v1 - (sl : Int)) = v1 - (sl : Int) := by rw [IntKind.wrap_i64]; omega
  have k2 : IntKind.i64.wrap (v2 - x5) = v2 - x5 := by rw [IntKind.wrap_i64]; omega
  generalize fitB q6 q7 (v1 - (sl : Int)) (v2 - x5) = FB at *
  have B0 : Hid (Below w.heap.size w (((w.alloc (.cells #[.int .i64 q1, .int .i64 q2, .int .i64 q3, .int .i64 q4, .int .i64 q5, .int .i64 q6, .int .i64 q7] 38)).alloc (.cells #[.int .i64 v1, .int .i64 v2] 33)).alloc (.cells #[.int .i64 x1, .int .i64 x2, .int .i64 x3, .slice sa sl sc, .int .i64 x5, .int .i64 x6, .int .i64 x7, .bool x8] 42))) := (((Below.refl _ w).alloc (Nat.le_refl _) _).alloc (by simp) _).alloc (by simp; omega) _
  go_enter Tryz.func27, Tryz.ntmps27
  go_wp2_with fail
  with_reducible refine (FI.out _).mono ?_
  rintro e y1 ⟨rfl, b1⟩
  have B1 := hid (B0.out.trans (b1.mono B0.out.size))
  clear b1
  go_wp2_with fail
  go_ret
  exact ⟨rfl, B1.out⟩
end Go.Proofs.YtdbkjcnanffibaaGreat

namespace Go.Proofs.YtdbkjcnanffibaaGreat
open Go.RowKit Go.Deep Go.Maps Go.Shelf
set_option linter.unusedVariables false
set_option linter.unusedSimpArgs false

/-- Is what a leaf wants guaranteed to it beside what it uses? -/
def stB (f : Int → Option Qu) (g : Int → Int × Int) (q c m : Int) : Bool := decide ((rop (g q) (c, m) ((g q).1 + c, (g q).2 + m)).2 = 0) && fitB (rop (g q) (c, m) ((g q).1 + c, (g q).2 + m)).1.1 (rop (g q) (c, m) ((g q).1 + c, (g q).2 + m)).1.2 ((f q).getD q0).mc ((f q).getD q0).mm

set_option maxRecDepth 100000 in
set_option maxHeartbeats 4000000 in
theorem ustarves_any {mq mu n m : Nat} {f : Int → Option Qu} {h : Int → Bool} {g : Int → Int × Int} (u1 u2 u3 : Int) (w : World) (hQ : QMp w mq n f) (hU : UM w mu m h g) (hx : I64 u1) :
    Calls Tryz.prog 14 #[.agg #[.map (some mq), .map (some mu)], .agg #[.int .i64 u1, .int .i64 u2, .int .i64 u3]] w fun e w' => e = .returned (.bool (stB f g u1 u2 u3)) ∧ Below w.heap.size w w' := by
  obtain ⟨q, hq⟩ : ∃ q, (f u1).getD q0 = q := ⟨_, rfl⟩
  have VA_ : ∃ R1 R2 RE : Int, Hid (∀ W, Calls Tryz.prog 33 #[.agg #[.int .i64 (g u1).1, .int .i64 (g u1).2], .agg #[.int .i64 u2, .int .i64 u3]] W fun e w' => e = .returned (.tuple #[.agg #[.int .i64 R1, .int .i64 R2], .int .i64 RE]) ∧ Below W.heap.size W w') ∧ Hid (stB f g u1 u2 u3 = (decide (RE = 0) && fitB R1 R2 q.mc q.mm)) :=
    ⟨_, _, _, fun W => vadd_any (g u1).1 (g u1).2 u2 u3 W, by unfold Hid stB; rw [hq]⟩
  obtain ⟨R1, R2, RE, VA_, HR⟩ := VA_
  have LQ := hid (fun W (hW : QMp W mq n f) => hW.look hx hq)
  have BA : Hid (Below w.heap.size w ((w.alloc (.cells #[.map (some mq), .map (some mu)] 49)).alloc (.cells #[.int .i64 u1, .int .i64 u2, .int .i64 u3] 44))) := ((Below.refl _ w).alloc (Nat.le_refl _) _).alloc (by simp) _
  have U0 : UM ((w.alloc (.cells #[.map (some mq), .map (some mu)] 49)).alloc (.cells #[.int .i64 u1, .int .i64 u2, .int .i64 u3] 44)) mu m h g := hU.below BA.out
  have Q0 := hid (show QMp ((w.alloc (.cells #[.map (some mq), .map (some mu)] 49)).alloc (.cells #[.int .i64 u1, .int .i64 u2, .int .i64 u3] 44)) mq n f from hQ.below BA.out)
  have LK := U0.look hx
  have m9 : ((w.alloc (.cells #[.map (some mq), .map (some mu)] 49)).alloc (.cells #[.int .i64 u1, .int .i64 u2, .int .i64 u3] 44)).cell? ⟨w.heap.size, 0, none⟩ = some (.map (some mq)) := by simp [go_sem]
  have m0 : ((w.alloc (.cells #[.map (some mq), .map (some mu)] 49)).alloc (.cells #[.int .i64 u1, .int .i64 u2, .int .i64 u3] 44)).cell? ⟨w.heap.size + 1, 0, none⟩ = some (.int .i64 u1) := by simp [go_sem]
  clear hq U0 hQ hU
  generalize hg : g u1 = gg at *
  clear hg
  obtain ⟨g1, g2⟩ := gg
  obtain ⟨q1, q2, q3, q4, q5, q6, q7⟩ := q
  simp only at VA_ LK LQ HR
  have FI := hid (fun W => fits_any R1 R2 q6 q7 W)
  generalize fitB R1 R2 q6 q7 = FB at *
  go_enter Tryz.func14, Tryz.ntmps14
  go_wp2_with fail
  refine (VA_.out _).mono ?_
  rintro e y1 ⟨rfl, b1⟩
  have BX := hid (BA.out.trans (b1.mono BA.out.size))
  have BY := hid (BX.out.alloc BX.out.size (.cells #[.int .i64 R1, .int .i64 R2] 33))
  have bz := b1.trans ((((Below.refl y1.heap.size y1).alloc (Nat.le_refl _) (.cells #[.int .i64 R1, .int .i64 R2] 33))).mono b1.size)
  have s9 := keepc bz m9
  have s0 := keepc bz m0
  have LQ2 := LQ.out _ (Q0.out.below bz)
  have hrm := run_min
  clear b1 VA_ LK LQ Q0 m9 m0 bz
  by_cases e1 : RE = 0
  · subst e1
    go_wp2_with fail
    refine (FI.out _).mono ?_
    rintro e y2 ⟨rfl, b2⟩
    have B2 := hid (BY.out.trans (b2.mono BY.out.size))
    clear b2
    go_wp2_with fail
    go_ret
    exact ⟨by rw [HR.out]; simp, B2.out⟩
  · have t : (RE == 0) = false := by simpa using e1
    have H2 : Hid (stB f g u1 u2 u3 = false) := by unfold Hid; rw [HR.out, decide_eq_false e1]; rfl
    clear HR
    go_wp2_with fail
    go_ret
    exact ⟨congrArg (fun b => Ending.returned (.bool b)) H2.out.symm, BY.out⟩
end Go.Proofs.YtdbkjcnanffibaaGreat

namespace Go.Proofs.YtdbkjcnanffibaaGreat
open Go.RowKit Go.Deep Go.Maps Go.Shelf
set_option linter.unusedVariables false
set_option linter.unusedSimpArgs false

/-- The error of the first k needs. -/
def ndE (l : List Qu) (nd : List Us) : Nat → Int
  | 0 => 0
  | k + 1 => if ndE l nd k ≠ 0 then ndE l nd k else if 0 < k ∧ (ua nd k).qu ≤ (ua nd (k - 1)).qu then 4 else useE l (ua nd k)
/-- Who of the first k is starved. -/
def stT (f : Int → Option Qu) (g : Int → Int × Int) (nd : List Us) : Nat → List Int
  | 0 => []
  | k + 1 => if stB f g (ua nd k).qu (ua nd k).uc (ua nd k).um = true then stT f g nd k ++ [(ua nd k).qu] else stT f g nd k
theorem stT_len {f : Int → Option Qu} {g : Int → Int × Int} {nd : List Us} : ∀ k, (stT f g nd k).length ≤ k := by
  intro k
  induction k with
  | zero => exact Nat.le_refl _
  | succ k ih => unfold stT; split <;> (try rw [List.length_append]) <;> (try simp only [List.length_cons, List.length_nil]) <;> omega
theorem ndE_stay {l : List Qu} {nd : List Us} {k : Nat} (h : ndE l nd k ≠ 0) : ∀ {n : Nat}, k ≤ n → ndE l nd n = ndE l nd k := by
  intro n
  induction n with
  | zero => intro h1; obtain rfl : k = 0 := by omega
            rfl
  | succ n ih =>
    intro h1
    rcases Nat.lt_or_ge k (n + 1) with h2 | h2
    · have := ih (by omega)
      show (if ndE l nd n ≠ 0 then _ else _) = _
      rw [if_pos (by rw [this]; exact h), this]
    · obtain rfl : k = n + 1 := by omega
      rfl
def starvE (l : List Qu) (ls : List Le) (nd : List Us) : Int := if readE l ls = 0 then ndE l nd nd.length else readE l ls
def starvL (l : List Qu) (ls : List Le) (nd : List Us) : List Int := if starvE l ls nd = 0 then stT (fun id => qfT l id l.length) (fun q => useT ls q ls.length) nd nd.length else []
theorem starvL_no {l : List Qu} {ls : List Le} {nd : List Us} (h : starvE l ls nd ≠ 0) : starvL l ls nd = [] := by unfold starvL; rw [if_neg h]
/-- The error of a single use. -/
theorem sumsE_one {l : List Qu} (hC : chkE l = 0) (u : Us) : sumsE l [u] = useE l u := by
  by_cases h : useE l u = 0
  · have hA : ∀ v ∈ [u], useE l v = 0 := fun v hv => by rw [List.mem_singleton.1 hv]; exact h
    have hz := useE_zero h
    rw [h]
    unfold sumsE
    rw [if_neg (by simp [hC]), if_neg (by rw [usesE_good hA]; simp), if_neg]
    rw [fitsB_yes (fun k hk => ?_)]
    · decide
    · unfold vecAt
      simp only [sumU]
      obtain ⟨_, _, ⟨a1, a2⟩, a3, a4⟩ := hz
      unfold okv okp
      rw [decide_eq_true_eq]
      refine ⟨⟨?_, ?_⟩, ?_, ?_⟩ <;> simp only <;> split <;> omega
  · have hb : usesE l [u] = useE l u := usesE_bad (k := 0) (by simp) (fun v hv => by simp at hv) h
    unfold sumsE
    rw [if_neg (by simp [hC]), if_pos (by rw [hb]; exact h), hb]
theorem holds_one {w : World} {b o n cap k : Nat} {l : List Us} (h : HoldsU w (some ⟨b, o, none⟩) n cap l) (hk : k < n) : HoldsU w (some ⟨b, o + k * 3, none⟩) 1 (cap - k) [ua l k] := by
  obtain ⟨h1, h2, h3, h4, h5⟩ := h
  obtain ⟨b', o', e, hlt, hc⟩ := h5 (by omega)
  cases e
  refine ⟨rfl, by omega, by omega, (fun e => by cases e), fun _ => ⟨b, _, rfl, hlt, fun j x hx i v hv => ?_⟩⟩
  have hj : j = 0 := by
    have := (List.getElem?_eq_some_iff.1 hx).1
    simpa using this
  subst hj
  cases hx
  have := hc k _ (ua_get (by omega)) i v hv
  rw [Nat.zero_mul, Nat.add_zero]
  exact this

set_option maxRecDepth 100000 in
set_option maxHeartbeats 8000000 in
theorem ustarved_any (a : Option Addr) (len cap : Nat) (l : List Qu) (b : Option Addr) (ln cp : Nat) (ls : List Le) (ub : Option Addr) (n uc : Nat) (nd : List Us) (w : World) (h : HoldsQ w a len cap l) (hok : ∀ q ∈ l, q.ok) (hl : HoldsL w b ln cp ls) (hlo : ∀ x ∈ ls, x.okB) (hn : ln * 24 ≤ 140737488355328) (hu : HoldsU w ub n uc nd) (huk : ∀ u ∈ nd, u.ok) (hnn : n * 8 ≤ 140737488355328) :
    Calls Tryz.prog 6 #[.slice a len cap, .slice b ln cp, .slice ub n uc] w fun e w' => ∃ v, e = .returned (.tuple #[v, .int .i64 (starvE l ls nd)]) ∧ OwnN w.heap.size w' v (starvL l ls nd).length (starvL l ls nd) ∧ Below w.heap.size w w' := by
  have RD := hid (uread_any a len cap l b ln cp ls w h hok hl hlo hn)
  have SU := hid (fun W (hW : Below w.heap.size w W) vb m c us (hus : HoldsU W vb m c us) (hq : ∀ u ∈ us, I64 u.qu) => qsums_any a len cap l vb m c us W (h.below hW) hok hus hq)
  have HU := hid hu
  have HN := hid hu.1
  have ucap := hu.2.1
  have ucm := hu.2.2.1
  have UK := hid huk
  clear h hok hl hlo hu huk
  by_cases e1 : readE l ls = 0
  case neg =>
    have E := hid (show starvE l ls nd = readE l ls by unfold starvE; rw [if_neg e1])
    have LN := hid (starvL_no (l := l) (ls := ls) (nd := nd) (by rw [E.out]; exact e1))
    have t : (readE l ls != 0) = true := by simpa using e1
    have E1 := hid e1
    clear e1
    generalize readE l ls = RE at *
    go_enter Tryz.func6, Tryz.ntmps6
    go_wp2_with fail
    refine RD.out.mono ?_
    rintro e w1 ⟨v1, rfl, o1, b1⟩
    have o2 : v1 = .agg #[.map none, .map none] := by
      rcases o1 with ⟨_, h⟩ | ⟨h, _⟩
      · exact h
      · exact absurd h E1.out
    subst o2
    have B1 := hid b1
    clear o1 b1
    go_wp2_with fail
    go_ret2
    exact ⟨_, ret_u E.out, by rw [LN.out]; exact OwnE.nil _ _ _ _ _, B1.out.alloc B1.out.size _⟩
  have E := hid (show starvE l ls nd = ndE l nd nd.length by unfold starvE; rw [if_pos e1])
  have LY := hid (fun (hz : ndE l nd nd.length = 0) => (show starvL l ls nd = stT (fun id => qfT l id l.length) (fun q => useT ls q ls.length) nd nd.length from by unfold starvL; rw [if_pos (by rw [E.out]; exact hz)]))
  have LN := hid (fun (hz : ndE l nd nd.length ≠ 0) => starvL_no (l := l) (ls := ls) (nd := nd) (by rw [E.out]; exact hz))
  have hC : chkE l = 0 := by
    unfold readE at e1
    by_cases hc : chkE l = 0
    · exact hc
    · rw [if_neg hc] at e1; exact absurd e1 hc
  have ONE := hid (fun u => sumsE_one hC u)
  rw [e1] at RD
  clear e1 hC
  go_enter Tryz.func6, Tryz.ntmps6
  go_wp2_with fail
  refine RD.out.mono ?_
  rintro e w1 ⟨v1, rfl, o1, b1⟩
  have o2 : ∃ mq mu, v1 = .agg #[.map (some mq), .map (some mu)] ∧ QMp w1 mq l.length (fun id => qfT l id l.length) ∧ UM w1 mu ls.length (fun q => hasT ls q ls.length) (fun q => useT ls q ls.length) := by
    rcases o1 with ⟨h, _⟩ | ⟨_, mq, mu, h, _, _, h1, h2⟩
    · exact absurd rfl h
    · exact ⟨mq, mu, h, h1, h2⟩
  obtain ⟨mq, mu, rfl, hQ, hU⟩ := o2
  have HQM := hid hQ
  have HUM := hid hU
  have B1 := hid b1
  have B2 := hid (B1.out.alloc B1.out.size (.cells #[.map (some mq), .map (some mu)] 49))
  have h0 : (w1.alloc (.cells #[.map (some mq), .map (some mu)] 49)).cell? ⟨w1.heap.size, 0, none⟩ = some (.map (some mq)) := by simp [go_sem]
  have h1 : (w1.alloc (.cells #[.map (some mq), .map (some mu)] 49)).cell? ⟨w1.heap.size, 1, none⟩ = some (.map (some mu)) := by simp [go_sem]
  have Z := hid (And.intro h0 h1)
  have QU := hid (And.intro (HQM.out.below ((Below.refl w1.heap.size w1).alloc (Nat.le_refl _) (.cells #[.map (some mq), .map (some mu)] 49))) (HUM.out.below ((Below.refl w1.heap.size w1).alloc (Nat.le_refl _) (.cells #[.map (some mq), .map (some mu)] 49))))
  clear o1 hQ hU b1 RD HQM HUM h0 h1
  go_wp2_with fail
  generalize hw2 : (w1.alloc (.cells #[.map (some mq), .map (some mu)] 49)) = w2 at *
  clear hw2
  generalize hHB : w1.heap.size = HB at *
  clear hHB
  go_loopw [10, 26] (fun s i wr => ∃ k : Nat, k ≤ n ∧ i = .int .i64 (k : Int) ∧ Hid (ndE l nd k = 0) ∧ Hid (OwnN w2.heap.size wr s (stT (fun id => qfT l id l.length) (fun q => useT ls q ls.length) nd k).length (stT (fun id => qfT l id l.length) (fun q => useT ls q ls.length) nd k)) ∧ Hid (Below w2.heap.size w2 wr)) (fun s i _ => n - (intOf i).toNat)
  case atStart => exact ⟨0, by omega, rfl, rfl, OwnE.nil _ _ _ _ _, Below.refl _ _⟩
  case round =>
    obtain ⟨k, hk, rfl, hE, hO, hB⟩ := hrel
    by_cases hlt : k < n
    · have hlt' : k < nd.length := by rw [HN.out]; exact hlt
      obtain ⟨ub, uo, rfl, RU⟩ := HU.out.rowU (by omega)
      have BW := hid (B2.out.trans (hB.out.mono B2.out.size))
      obtain ⟨r0, r1, r2⟩ := RU k hlt
      have c0 := keepc BW.out r0
      have c1 := keepc BW.out r1
      have c2 := keepc BW.out r2
      have okq := (UK.out _ (ua_mem hlt')).1
      have NE : Hid (ndE l nd (k + 1) = if 0 < k ∧ (ua nd k).qu ≤ (ua nd (k - 1)).qu then 4 else useE l (ua nd k)) := by
        show (if ndE l nd k ≠ 0 then _ else _) = _
        rw [if_neg (by rw [hE.out]; simp)]
      have STY := hid (fun (hne : ndE l nd (k + 1) ≠ 0) => ndE_stay hne (n := nd.length) (by omega))
      have NS : Hid (stT (fun id => qfT l id l.length) (fun q => useT ls q ls.length) nd (k + 1) = if stB (fun id => qfT l id l.length) (fun q => useT ls q ls.length) (ua nd k).qu (ua nd k).uc (ua nd k).um = true then stT (fun id => qfT l id l.length) (fun q => useT ls q ls.length) nd k ++ [(ua nd k).qu] else stT (fun id => qfT l id l.length) (fun q => useT ls q ls.length) nd k) := rfl
      have hsl := stT_len (f := fun id => qfT l id l.length) (g := fun q => useT ls q ls.length) (nd := nd) k
      have SUM := hid (fun W (hW : Below w.heap.size w W) => SU.out W hW _ 1 (uc - k) [ua nd k] (holds_one (HU.out.below hW) hlt) (fun u hu => by rw [List.mem_singleton.1 hu]; exact (UK.out _ (ua_mem hlt')).1))
      rw [ONE.out] at SUM
      have ka : (0 : Int) ≤ (k : Int) := by omega
      have kb : (k : Int) < (n : Int) := by omega
      have kc : (n : Int) ≤ (uc : Int) := by omega
      have kd : (k : Int) + 1 ≤ (n : Int) := by omega
      have kw : IntKind.i64.wrap ((k : Int) + 1) = (k : Int) + 1 := by rw [IntKind.wrap_i64]; omega
      have kw0 : IntKind.i64.wrap (k : Int) = (k : Int) := by rw [IntKind.wrap_i64]; omega
      have kn : ((k : Int) + 1).toNat = k + 1 := by omega
      have ku : (k : Int) + 1 ≤ (uc : Int) := by omega
      have kcap : ¬ uc = k := by omega
      have kcap' : ¬ k = uc := by omega
      have RUH := hid RU
      clear r0 r1 r2 RU
      generalize hx : ua nd k = x at *
      have HX := hid hx
      clear hx
      obtain ⟨u1, u2, u3⟩ := x
      simp only at c0 c1 c2 okq NS
      have BA := hid (hB.out.alloc hB.out.size (.cells #[.int .i64 u1, .int .i64 u2, .int .i64 u3] 44))
      have y0 : (wr.alloc (.cells #[.int .i64 u1, .int .i64 u2, .int .i64 u3] 44)).cell? ⟨wr.heap.size, 0, none⟩ = some (.int .i64 u1) := by simp [go_sem]
      have y1 : (wr.alloc (.cells #[.int .i64 u1, .int .i64 u2, .int .i64 u3] 44)).cell? ⟨wr.heap.size, 1, none⟩ = some (.int .i64 u2) := by simp [go_sem]
      have y2 : (wr.alloc (.cells #[.int .i64 u1, .int .i64 u2, .int .i64 u3] 44)).cell? ⟨wr.heap.size, 2, none⟩ = some (.int .i64 u3) := by simp [go_sem]
      have OA := hid (hO.out.below ((Below.refl wr.heap.size wr).alloc (Nat.le_refl _) (.cells #[.int .i64 u1, .int .i64 u2, .int .i64 u3] 44)))
      have PR := hid (fun (j : Nat) (hj : j < n) => keepc (B2.out.trans (BA.out.mono B2.out.size)) (RUH.out j hj).1)
      go_upto_region 8 with fail
      clear hO RUH BW
      clear c0 c1 c2
      generalize (wr.alloc (.cells #[.int .i64 u1, .int .i64 u2, .int .i64 u3] 44)) = w6 at *
      generalize wr.heap.size = QK at *
      have TW := hid (fun W (hW : Below w6.heap.size w6 W) => BA.out.trans (hW.mono BA.out.size))
      have BX := hid (Below.drew (Below.refl w6.heap.size w6))
      have x0 := drewc y0
      have x1 := drewc y1
      have x2 := drewc y2
      have FRM : Hid (¬ (0 < k ∧ u1 ≤ (ua nd (k - 1)).qu) → ndE l nd (k + 1) = useE l ⟨u1, u2, u3⟩) := fun h => by rw [NE.out, if_neg h]
      have OUT : Hid (0 < k ∧ u1 ≤ (ua nd (k - 1)).qu → ndE l nd (k + 1) = 4) := fun h => by rw [NE.out, if_pos h]
      clear NE
      by_cases h0 : k = 0
      · have FR := hid (FRM.out (by omega))
        have t0 : decide ((0 : Int) < (k : Int)) = false := by simp; omega
        have H0 := hid h0
        clear FRM OUT PR h0 t0
        refine wp_region_held_drew (S := (fun w' => True)) (by kernel_rfl) trivial (fun hHeld => ?_)
        refine wpAnyH_take (i := 0) (v := .int .i64 (k : Int)) rfl (by kernel_rfl) (by kernel_rfl) (by kernel_rfl) (fun _ _ _ h => h) (Or.inl ⟨by rfl, ?_⟩) (by assumption) ?_
        · (intro w hSw; (try dsimp only at hSw); go_simp <;> (try exact H0.out))
        (try simp only [Act.put, List.getElem_toArray, List.getElem_cons_succ, List.getElem_cons_zero, List.setIfInBounds_toArray, List.set_cons_zero, List.set_cons_succ])
        refine wpAnyH_take (i := 1) (v := .bool false) rfl (by kernel_rfl) (by kernel_rfl) (by kernel_rfl) (fun _ _ _ h => h) (Or.inl ⟨by rfl, ?_⟩) (by assumption) ?_
        · (intro w hSw; (try dsimp only at hSw); go_simp <;> (try exact H0.out))
        (try simp only [Act.put, List.getElem_toArray, List.getElem_cons_succ, List.getElem_cons_zero, List.setIfInBounds_toArray, List.set_cons_zero, List.set_cons_succ])
        refine wpAnyH_take (i := 2) (v := .bool false) rfl (by kernel_rfl) (by kernel_rfl) (by kernel_rfl) (fun _ _ _ h => h) (Or.inl ⟨by rfl, ?_⟩) (by assumption) ?_
        · (intro w hSw; (try dsimp only at hSw); go_simp <;> (try exact H0.out))
        (try simp only [Act.put, List.getElem_toArray, List.getElem_cons_succ, List.getElem_cons_zero, List.setIfInBounds_toArray, List.set_cons_zero, List.set_cons_succ])
        refine wpAnyH_take (i := 3) (v := undef) rfl (by kernel_rfl) (by kernel_rfl) (by kernel_rfl) (fun _ _ _ h => h) (Or.inr ⟨by rfl, rfl⟩) (by assumption) ?_
        (try simp only [Act.put, List.getElem_toArray, List.getElem_cons_succ, List.getElem_cons_zero, List.setIfInBounds_toArray, List.set_cons_zero, List.set_cons_succ])
        refine wpAnyH_take (i := 4) (v := undef) rfl (by kernel_rfl) (by kernel_rfl) (by kernel_rfl) (fun _ _ _ h => h) (Or.inr ⟨by rfl, rfl⟩) (by assumption) ?_
        (try simp only [Act.put, List.getElem_toArray, List.getElem_cons_succ, List.getElem_cons_zero, List.setIfInBounds_toArray, List.set_cons_zero, List.set_cons_succ])
        refine wpAnyH_take (i := 5) (v := undef) rfl (by kernel_rfl) (by kernel_rfl) (by kernel_rfl) (fun _ _ _ h => h) (Or.inr ⟨by rfl, rfl⟩) (by assumption) ?_
        (try simp only [Act.put, List.getElem_toArray, List.getElem_cons_succ, List.getElem_cons_zero, List.setIfInBounds_toArray, List.set_cons_zero, List.set_cons_succ])
        refine wpAnyH_take (i := 6) (v := undef) rfl (by kernel_rfl) (by kernel_rfl) (by kernel_rfl) (fun _ _ _ h => h) (Or.inr ⟨by rfl, rfl⟩) (by assumption) ?_
        (try simp only [Act.put, List.getElem_toArray, List.getElem_cons_succ, List.getElem_cons_zero, List.setIfInBounds_toArray, List.set_cons_zero, List.set_cons_succ])
        refine wpAnyH_take (i := 7) (v := undef) rfl (by kernel_rfl) (by kernel_rfl) (by kernel_rfl) (fun _ _ _ h => h) (Or.inr ⟨by rfl, rfl⟩) (by assumption) ?_
        (try simp only [Act.put, List.getElem_toArray, List.getElem_cons_succ, List.getElem_cons_zero, List.setIfInBounds_toArray, List.set_cons_zero, List.set_cons_succ])
        refine wpAnyH_take (i := 8) (v := undef) rfl (by kernel_rfl) (by kernel_rfl) (by kernel_rfl) (fun _ _ _ h => h) (Or.inr ⟨by rfl, rfl⟩) (by assumption) ?_
        (try simp only [Act.put, List.getElem_toArray, List.getElem_cons_succ, List.getElem_cons_zero, List.setIfInBounds_toArray, List.set_cons_zero, List.set_cons_succ])
        refine wpAnyH_take (i := 9) (v := undef) rfl (by kernel_rfl) (by kernel_rfl) (by kernel_rfl) (fun _ _ _ h => h) (Or.inr ⟨by rfl, rfl⟩) (by assumption) ?_
        (try simp only [Act.put, List.getElem_toArray, List.getElem_cons_succ, List.getElem_cons_zero, List.setIfInBounds_toArray, List.set_cons_zero, List.set_cons_succ])
        refine wpAnyH_take (i := 10) (v := undef) rfl (by kernel_rfl) (by kernel_rfl) (by kernel_rfl) (fun _ _ _ h => h) (Or.inr ⟨by rfl, rfl⟩) (by assumption) ?_
        (try simp only [Act.put, List.getElem_toArray, List.getElem_cons_succ, List.getElem_cons_zero, List.setIfInBounds_toArray, List.set_cons_zero, List.set_cons_succ])
        refine wpAnyH_take (i := 11) (v := undef) rfl (by kernel_rfl) (by kernel_rfl) (by kernel_rfl) (fun _ _ _ h => h) (Or.inr ⟨by rfl, rfl⟩) (by assumption) ?_
        (try simp only [Act.put, List.getElem_toArray, List.getElem_cons_succ, List.getElem_cons_zero, List.setIfInBounds_toArray, List.set_cons_zero, List.set_cons_succ])
        refine wpAnyH_take (i := 12) (v := .bool false) rfl (by kernel_rfl) (by kernel_rfl) (by kernel_rfl) (fun _ _ _ h => h) (Or.inl ⟨by rfl, ?_⟩) (by assumption) ?_
        · (intro w hSw; (try dsimp only at hSw); go_simp <;> (try exact H0.out))
        (try simp only [Act.put, List.getElem_toArray, List.getElem_cons_succ, List.getElem_cons_zero, List.setIfInBounds_toArray, List.set_cons_zero, List.set_cons_succ])
        refine wpAnyH_done (by kernel_rfl) ?_ _
        clear hHeld 
        rw [FR.out] at STY
        have BW6 := hid (B2.out.trans ((TW.out _ BX.out).mono B2.out.size))
        go_wp2_with fail
        with_reducible refine (SUM.out _ BW6.out).mono ?_
        rintro e w7 ⟨v7, rfl, o7, b7⟩
        clear o7
        have B7 := hid (BX.out.trans (b7.mono BX.out.size))
        replace x0 := keepc b7 x0
        replace x1 := keepc b7 x1
        replace x2 := keepc b7 x2
        clear b7 SUM BW6
        by_cases hz : useE l ⟨u1, u2, u3⟩ = 0
        · rw [hz]
          have FZ : Hid (ndE l nd (k + 1) = 0) := FR.out.trans hz
          clear STY FR hz
          have z0 := keepc (TW.out _ B7.out) Z.out.1
          have z1 := keepc (TW.out _ B7.out) Z.out.2
          have ST := hid (ustarves_any u1 u2 u3 w7 (QU.out.1.below (TW.out _ B7.out)) (QU.out.2.below (TW.out _ B7.out)) okq)
          generalize stB (fun id => qfT l id l.length) (fun q => useT ls q ls.length) u1 u2 u3 = SB at *
          go_wp2_with fail
          with_reducible refine ST.out.mono ?_
          rintro e w8 ⟨rfl, b8⟩
          have B8 := hid (B7.out.trans (b8.mono B7.out.size))
          replace x0 := keepc b8 x0
          have O8 := hid (OA.out.below B8.out)
          clear ST b8 x1 x2 z0 z1 OA
          cases SB with
          | false =>
            have NS2 : Hid (stT (fun id => qfT l id l.length) (fun q => useT ls q ls.length) nd (k + 1) = stT (fun id => qfT l id l.length) (fun q => useT ls q ls.length) nd k) := by unfold Hid; rw [NS.out]; simp
            clear NS
            generalize stT (fun id => qfT l id l.length) (fun q => useT ls q ls.length) nd k = ST at *
            go_wp2_with fail
            refine ⟨⟨k + 1, by omega, by go_num, FZ, by unfold Hid; rw [NS2.out]; exact O8.out, TW.out _ B8.out⟩, ?_⟩
            simp [intOf]; omega
          | true =>
            have NS2 : Hid (stT (fun id => qfT l id l.length) (fun q => useT ls q ls.length) nd (k + 1) = stT (fun id => qfT l id l.length) (fun q => useT ls q ls.length) nd k ++ [u1]) := by unfold Hid; rw [NS.out]; simp
            clear NS
            generalize stT (fun id => qfT l id l.length) (fun q => useT ls q ls.length) nd k = ST at *
            generalize hsn : ST.length = sn at *
            have HSN := hid hsn
            clear hsn
            have BW8 := hid (TW.out _ B8.out)
            go_wp2_with (at_builtin; refine push_ownE 26 3 _ 8 encN_len encN_one Tryz.underlying26 infoN rfl (by decide) w8 u1 rfl (.tmp 60) (.tmp 63) rfl w2.heap.size sn u10 _ _ rfl rfl O8.out BW8.out.size (by simp [Act.eval]) (by omega) (by omega) ?_)
            intro v9 w9 h1 h2 _
            have O9 := hid h1
            have B9 := hid (BW8.out.trans h2)
            clear h1 h2
            go_wp2_with fail
            refine ⟨⟨k + 1, by omega, by go_num, FZ, by unfold Hid; rw [NS2.out, List.length_append, HSN.out]; exact O9.out, B9⟩, ?_⟩
            simp [intOf]; omega
        · have EF := hid (E.out.trans (STY.out hz))
          have LF := hid (LN.out (by rw [STY.out hz]; exact hz))
          have t : (useE l ⟨u1, u2, u3⟩ != 0) = true := by simpa using hz
          clear STY FR hz OA x0 x1 x2
          generalize useE l ⟨u1, u2, u3⟩ = UE at *
          have BE := hid (B2.out.trans ((TW.out _ B7.out).mono B2.out.size))
          go_wp2_with fail
          go_ret2
          exact ⟨_, ret_u EF.out, by rw [LF.out]; exact OwnE.nil _ _ _ _ _, BE.out⟩
      · have t0 : decide ((0 : Int) < (k : Int)) = true := by simp; omega
        obtain ⟨j, hj⟩ : ∃ j, j = k - 1 := ⟨_, rfl⟩
        have hkj : (k : Int) - 1 = (j : Int) := by omega
        have kj0 : (0 : Int) ≤ (j : Int) := by omega
        have jw : IntKind.i64.wrap (j : Int) = (j : Int) := by rw [IntKind.wrap_i64]; omega
        have kjn : (j : Int) < (n : Int) := by omega
        have p0 := PR.out j (by omega)
        rw [← hj] at FRM OUT
        have h0p : 0 < k := by omega
        clear h0 hj
        generalize (ua nd j).qu = PV at *
        by_cases hle : u1 ≤ PV
        · have tl : decide (u1 ≤ PV) = true := by simpa using hle
          have F4 := OUT.out ⟨h0p, hle⟩
          rw [F4] at STY
          have EF := hid (E.out.trans (STY.out (by decide)))
          have LF := hid (LN.out (by rw [STY.out (by decide)]; decide))
          clear FRM OUT F4 STY PR
          have rg_y0 := drewc y0
          have rg_p0 := drewc p0
          refine wp_region_held_drew (S := (fun w' => w'.cell? ⟨QK, 0, none⟩ = some (.int .i64 u1) ∧ w'.cell? ⟨ub, uo + j * 3, none⟩ = some (.int .i64 PV))) (by kernel_rfl) ⟨rg_y0, rg_p0⟩ (fun hHeld => ?_)
          refine wpAnyH_take (i := 0) (v := .int .i64 (k : Int)) rfl (by kernel_rfl) (by kernel_rfl) (by kernel_rfl) (fun _ _ _ h => h) (Or.inl ⟨by rfl, ?_⟩) (by assumption) ?_
          · (intro w hSw; (try dsimp only at hSw); go_simp)
          (try simp only [Act.put, List.getElem_toArray, List.getElem_cons_succ, List.getElem_cons_zero, List.setIfInBounds_toArray, List.set_cons_zero, List.set_cons_succ])
          refine wpAnyH_take (i := 1) (v := .bool true) rfl (by kernel_rfl) (by kernel_rfl) (by kernel_rfl) (fun _ _ _ h => h) (Or.inl ⟨by rfl, ?_⟩) (by assumption) ?_
          · (intro w hSw; (try dsimp only at hSw); go_simp)
          (try simp only [Act.put, List.getElem_toArray, List.getElem_cons_succ, List.getElem_cons_zero, List.setIfInBounds_toArray, List.set_cons_zero, List.set_cons_succ])
          refine wpAnyH_take (i := 2) (v := .bool true) rfl (by kernel_rfl) (by kernel_rfl) (by kernel_rfl) (fun _ _ _ h => h) (Or.inl ⟨by rfl, ?_⟩) (by assumption) ?_
          · (intro w hSw; (try dsimp only at hSw); go_simp)
          (try simp only [Act.put, List.getElem_toArray, List.getElem_cons_succ, List.getElem_cons_zero, List.setIfInBounds_toArray, List.set_cons_zero, List.set_cons_succ])
          refine wpAnyH_take (i := 3) (v := .pointer (some ⟨QK, 0, none⟩)) rfl (by kernel_rfl) (by kernel_rfl) (by kernel_rfl) (fun _ _ _ h => h) (Or.inl ⟨by rfl, ?_⟩) (by assumption) ?_
          · (intro w hSw; (try dsimp only at hSw); go_simp)
          (try simp only [Act.put, List.getElem_toArray, List.getElem_cons_succ, List.getElem_cons_zero, List.setIfInBounds_toArray, List.set_cons_zero, List.set_cons_succ])
          refine wpAnyH_take (i := 4) (v := .int .i64 u1) rfl (by kernel_rfl) (by kernel_rfl) (by kernel_rfl) (fun _ _ _ h => h) (Or.inl ⟨by rfl, ?_⟩) (by assumption) ?_
          · (intro w hSw; (try dsimp only at hSw); go_simp)
          (try simp only [Act.put, List.getElem_toArray, List.getElem_cons_succ, List.getElem_cons_zero, List.setIfInBounds_toArray, List.set_cons_zero, List.set_cons_succ])
          refine wpAnyH_take (i := 5) (v := .slice (some ⟨ub, uo, none⟩) n uc) rfl (by kernel_rfl) (by kernel_rfl) (by kernel_rfl) (fun _ _ _ h => h) (Or.inl ⟨by rfl, ?_⟩) (by assumption) ?_
          · (intro w hSw; (try dsimp only at hSw); go_simp)
          (try simp only [Act.put, List.getElem_toArray, List.getElem_cons_succ, List.getElem_cons_zero, List.setIfInBounds_toArray, List.set_cons_zero, List.set_cons_succ])
          refine wpAnyH_take (i := 6) (v := .int .i64 (k : Int)) rfl (by kernel_rfl) (by kernel_rfl) (by kernel_rfl) (fun _ _ _ h => h) (Or.inl ⟨by rfl, ?_⟩) (by assumption) ?_
          · (intro w hSw; (try dsimp only at hSw); go_simp)
          (try simp only [Act.put, List.getElem_toArray, List.getElem_cons_succ, List.getElem_cons_zero, List.setIfInBounds_toArray, List.set_cons_zero, List.set_cons_succ])
          refine wpAnyH_take (i := 7) (v := .int .i64 (j : Int)) rfl (by kernel_rfl) (by kernel_rfl) (by kernel_rfl) (fun _ _ _ h => h) (Or.inl ⟨by rfl, ?_⟩) (by assumption) ?_
          · (intro w hSw; (try dsimp only at hSw); go_simp)
          (try simp only [Act.put, List.getElem_toArray, List.getElem_cons_succ, List.getElem_cons_zero, List.setIfInBounds_toArray, List.set_cons_zero, List.set_cons_succ])
          refine wpAnyH_take (i := 8) (v := .pointer (some ⟨ub, uo + j * 3, none⟩)) rfl (by kernel_rfl) (by kernel_rfl) (by kernel_rfl) (fun _ _ _ h => h) (Or.inl ⟨by rfl, ?_⟩) (by assumption) ?_
          · (intro w hSw; (try dsimp only at hSw); go_simp)
          (try simp only [Act.put, List.getElem_toArray, List.getElem_cons_succ, List.getElem_cons_zero, List.setIfInBounds_toArray, List.set_cons_zero, List.set_cons_succ])
          refine wpAnyH_take (i := 9) (v := .pointer (some ⟨ub, uo + j * 3, none⟩)) rfl (by kernel_rfl) (by kernel_rfl) (by kernel_rfl) (fun _ _ _ h => h) (Or.inl ⟨by rfl, ?_⟩) (by assumption) ?_
          · (intro w hSw; (try dsimp only at hSw); go_simp)
          (try simp only [Act.put, List.getElem_toArray, List.getElem_cons_succ, List.getElem_cons_zero, List.setIfInBounds_toArray, List.set_cons_zero, List.set_cons_succ])
          refine wpAnyH_take (i := 10) (v := .int .i64 PV) rfl (by kernel_rfl) (by kernel_rfl) (by kernel_rfl) (fun _ _ _ h => h) (Or.inl ⟨by rfl, ?_⟩) (by assumption) ?_
          · (intro w hSw; (try dsimp only at hSw); go_simp)
          (try simp only [Act.put, List.getElem_toArray, List.getElem_cons_succ, List.getElem_cons_zero, List.setIfInBounds_toArray, List.set_cons_zero, List.set_cons_succ])
          refine wpAnyH_take (i := 11) (v := .bool true) rfl (by kernel_rfl) (by kernel_rfl) (by kernel_rfl) (fun _ _ _ h => h) (Or.inl ⟨by rfl, ?_⟩) (by assumption) ?_
          · (intro w hSw; (try dsimp only at hSw); go_simp)
          (try simp only [Act.put, List.getElem_toArray, List.getElem_cons_succ, List.getElem_cons_zero, List.setIfInBounds_toArray, List.set_cons_zero, List.set_cons_succ])
          refine wpAnyH_take (i := 12) (v := .bool true) rfl (by kernel_rfl) (by kernel_rfl) (by kernel_rfl) (fun _ _ _ h => h) (Or.inl ⟨by rfl, ?_⟩) (by assumption) ?_
          · (intro w hSw; (try dsimp only at hSw); go_simp)
          (try simp only [Act.put, List.getElem_toArray, List.getElem_cons_succ, List.getElem_cons_zero, List.setIfInBounds_toArray, List.set_cons_zero, List.set_cons_succ])
          refine wpAnyH_done (by kernel_rfl) ?_ _
          clear hHeld rg_y0 rg_p0
          have BE := hid (B2.out.trans ((TW.out _ BX.out).mono B2.out.size))
          go_wp2_with fail
          go_ret2
          exact ⟨_, ret_u EF.out, by rw [LF.out]; exact OwnE.nil _ _ _ _ _, BE.out⟩
        · have tl : decide (u1 ≤ PV) = false := by simpa using hle
          have FR := hid (FRM.out (fun h => hle h.2))
          clear FRM OUT PR
          have rg_y0 := drewc y0
          have rg_p0 := drewc p0
          refine wp_region_held_drew (S := (fun w' => w'.cell? ⟨QK, 0, none⟩ = some (.int .i64 u1) ∧ w'.cell? ⟨ub, uo + j * 3, none⟩ = some (.int .i64 PV))) (by kernel_rfl) ⟨rg_y0, rg_p0⟩ (fun hHeld => ?_)
          refine wpAnyH_take (i := 0) (v := .int .i64 (k : Int)) rfl (by kernel_rfl) (by kernel_rfl) (by kernel_rfl) (fun _ _ _ h => h) (Or.inl ⟨by rfl, ?_⟩) (by assumption) ?_
          · (intro w hSw; (try dsimp only at hSw); go_simp)
          (try simp only [Act.put, List.getElem_toArray, List.getElem_cons_succ, List.getElem_cons_zero, List.setIfInBounds_toArray, List.set_cons_zero, List.set_cons_succ])
          refine wpAnyH_take (i := 1) (v := .bool true) rfl (by kernel_rfl) (by kernel_rfl) (by kernel_rfl) (fun _ _ _ h => h) (Or.inl ⟨by rfl, ?_⟩) (by assumption) ?_
          · (intro w hSw; (try dsimp only at hSw); go_simp)
          (try simp only [Act.put, List.getElem_toArray, List.getElem_cons_succ, List.getElem_cons_zero, List.setIfInBounds_toArray, List.set_cons_zero, List.set_cons_succ])
          refine wpAnyH_take (i := 2) (v := .bool true) rfl (by kernel_rfl) (by kernel_rfl) (by kernel_rfl) (fun _ _ _ h => h) (Or.inl ⟨by rfl, ?_⟩) (by assumption) ?_
          · (intro w hSw; (try dsimp only at hSw); go_simp)
          (try simp only [Act.put, List.getElem_toArray, List.getElem_cons_succ, List.getElem_cons_zero, List.setIfInBounds_toArray, List.set_cons_zero, List.set_cons_succ])
          refine wpAnyH_take (i := 3) (v := .pointer (some ⟨QK, 0, none⟩)) rfl (by kernel_rfl) (by kernel_rfl) (by kernel_rfl) (fun _ _ _ h => h) (Or.inl ⟨by rfl, ?_⟩) (by assumption) ?_
          · (intro w hSw; (try dsimp only at hSw); go_simp)
          (try simp only [Act.put, List.getElem_toArray, List.getElem_cons_succ, List.getElem_cons_zero, List.setIfInBounds_toArray, List.set_cons_zero, List.set_cons_succ])
          refine wpAnyH_take (i := 4) (v := .int .i64 u1) rfl (by kernel_rfl) (by kernel_rfl) (by kernel_rfl) (fun _ _ _ h => h) (Or.inl ⟨by rfl, ?_⟩) (by assumption) ?_
          · (intro w hSw; (try dsimp only at hSw); go_simp)
          (try simp only [Act.put, List.getElem_toArray, List.getElem_cons_succ, List.getElem_cons_zero, List.setIfInBounds_toArray, List.set_cons_zero, List.set_cons_succ])
          refine wpAnyH_take (i := 5) (v := .slice (some ⟨ub, uo, none⟩) n uc) rfl (by kernel_rfl) (by kernel_rfl) (by kernel_rfl) (fun _ _ _ h => h) (Or.inl ⟨by rfl, ?_⟩) (by assumption) ?_
          · (intro w hSw; (try dsimp only at hSw); go_simp)
          (try simp only [Act.put, List.getElem_toArray, List.getElem_cons_succ, List.getElem_cons_zero, List.setIfInBounds_toArray, List.set_cons_zero, List.set_cons_succ])
          refine wpAnyH_take (i := 6) (v := .int .i64 (k : Int)) rfl (by kernel_rfl) (by kernel_rfl) (by kernel_rfl) (fun _ _ _ h => h) (Or.inl ⟨by rfl, ?_⟩) (by assumption) ?_
          · (intro w hSw; (try dsimp only at hSw); go_simp)
          (try simp only [Act.put, List.getElem_toArray, List.getElem_cons_succ, List.getElem_cons_zero, List.setIfInBounds_toArray, List.set_cons_zero, List.set_cons_succ])
          refine wpAnyH_take (i := 7) (v := .int .i64 (j : Int)) rfl (by kernel_rfl) (by kernel_rfl) (by kernel_rfl) (fun _ _ _ h => h) (Or.inl ⟨by rfl, ?_⟩) (by assumption) ?_
          · (intro w hSw; (try dsimp only at hSw); go_simp)
          (try simp only [Act.put, List.getElem_toArray, List.getElem_cons_succ, List.getElem_cons_zero, List.setIfInBounds_toArray, List.set_cons_zero, List.set_cons_succ])
          refine wpAnyH_take (i := 8) (v := .pointer (some ⟨ub, uo + j * 3, none⟩)) rfl (by kernel_rfl) (by kernel_rfl) (by kernel_rfl) (fun _ _ _ h => h) (Or.inl ⟨by rfl, ?_⟩) (by assumption) ?_
          · (intro w hSw; (try dsimp only at hSw); go_simp)
          (try simp only [Act.put, List.getElem_toArray, List.getElem_cons_succ, List.getElem_cons_zero, List.setIfInBounds_toArray, List.set_cons_zero, List.set_cons_succ])
          refine wpAnyH_take (i := 9) (v := .pointer (some ⟨ub, uo + j * 3, none⟩)) rfl (by kernel_rfl) (by kernel_rfl) (by kernel_rfl) (fun _ _ _ h => h) (Or.inl ⟨by rfl, ?_⟩) (by assumption) ?_
          · (intro w hSw; (try dsimp only at hSw); go_simp)
          (try simp only [Act.put, List.getElem_toArray, List.getElem_cons_succ, List.getElem_cons_zero, List.setIfInBounds_toArray, List.set_cons_zero, List.set_cons_succ])
          refine wpAnyH_take (i := 10) (v := .int .i64 PV) rfl (by kernel_rfl) (by kernel_rfl) (by kernel_rfl) (fun _ _ _ h => h) (Or.inl ⟨by rfl, ?_⟩) (by assumption) ?_
          · (intro w hSw; (try dsimp only at hSw); go_simp)
          (try simp only [Act.put, List.getElem_toArray, List.getElem_cons_succ, List.getElem_cons_zero, List.setIfInBounds_toArray, List.set_cons_zero, List.set_cons_succ])
          refine wpAnyH_take (i := 11) (v := .bool false) rfl (by kernel_rfl) (by kernel_rfl) (by kernel_rfl) (fun _ _ _ h => h) (Or.inl ⟨by rfl, ?_⟩) (by assumption) ?_
          · (intro w hSw; (try dsimp only at hSw); go_simp)
          (try simp only [Act.put, List.getElem_toArray, List.getElem_cons_succ, List.getElem_cons_zero, List.setIfInBounds_toArray, List.set_cons_zero, List.set_cons_succ])
          refine wpAnyH_take (i := 12) (v := .bool false) rfl (by kernel_rfl) (by kernel_rfl) (by kernel_rfl) (fun _ _ _ h => h) (Or.inl ⟨by rfl, ?_⟩) (by assumption) ?_
          · (intro w hSw; (try dsimp only at hSw); go_simp)
          (try simp only [Act.put, List.getElem_toArray, List.getElem_cons_succ, List.getElem_cons_zero, List.setIfInBounds_toArray, List.set_cons_zero, List.set_cons_succ])
          refine wpAnyH_done (by kernel_rfl) ?_ _
          clear hHeld rg_y0 rg_p0
          rw [FR.out] at STY
          have BW6 := hid (B2.out.trans ((TW.out _ BX.out).mono B2.out.size))
          go_wp2_with fail
          with_reducible refine (SUM.out _ BW6.out).mono ?_
          rintro e w7 ⟨v7, rfl, o7, b7⟩
          clear o7
          have B7 := hid (BX.out.trans (b7.mono BX.out.size))
          replace x0 := keepc b7 x0
          replace x1 := keepc b7 x1
          replace x2 := keepc b7 x2
          clear b7 SUM BW6
          by_cases hz : useE l ⟨u1, u2, u3⟩ = 0
          · rw [hz]
            have FZ : Hid (ndE l nd (k + 1) = 0) := FR.out.trans hz
            clear STY FR hz
            have z0 := keepc (TW.out _ B7.out) Z.out.1
            have z1 := keepc (TW.out _ B7.out) Z.out.2
            have ST := hid (ustarves_any u1 u2 u3 w7 (QU.out.1.below (TW.out _ B7.out)) (QU.out.2.below (TW.out _ B7.out)) okq)
            generalize stB (fun id => qfT l id l.length) (fun q => useT ls q ls.length) u1 u2 u3 = SB at *
            go_wp2_with fail
            with_reducible refine ST.out.mono ?_
            rintro e w8 ⟨rfl, b8⟩
            have B8 := hid (B7.out.trans (b8.mono B7.out.size))
            replace x0 := keepc b8 x0
            have O8 := hid (OA.out.below B8.out)
            clear ST b8 x1 x2 z0 z1 OA
            cases SB with
            | false =>
              have NS2 : Hid (stT (fun id => qfT l id l.length) (fun q => useT ls q ls.length) nd (k + 1) = stT (fun id => qfT l id l.length) (fun q => useT ls q ls.length) nd k) := by unfold Hid; rw [NS.out]; simp
              clear NS
              generalize stT (fun id => qfT l id l.length) (fun q => useT ls q ls.length) nd k = ST at *
              go_wp2_with fail
              refine ⟨⟨k + 1, by omega, by go_num, FZ, by unfold Hid; rw [NS2.out]; exact O8.out, TW.out _ B8.out⟩, ?_⟩
              simp [intOf]; omega
            | true =>
              have NS2 : Hid (stT (fun id => qfT l id l.length) (fun q => useT ls q ls.length) nd (k + 1) = stT (fun id => qfT l id l.length) (fun q => useT ls q ls.length) nd k ++ [u1]) := by unfold Hid; rw [NS.out]; simp
              clear NS
              generalize stT (fun id => qfT l id l.length) (fun q => useT ls q ls.length) nd k = ST at *
              generalize hsn : ST.length = sn at *
              have HSN := hid hsn
              clear hsn
              have BW8 := hid (TW.out _ B8.out)
              go_wp2_with (at_builtin; refine push_ownE 26 3 _ 8 encN_len encN_one Tryz.underlying26 infoN rfl (by decide) w8 u1 rfl (.tmp 60) (.tmp 63) rfl w2.heap.size sn u10 _ _ rfl rfl O8.out BW8.out.size (by simp [Act.eval]) (by omega) (by omega) ?_)
              intro v9 w9 h1 h2 _
              have O9 := hid h1
              have B9 := hid (BW8.out.trans h2)
              clear h1 h2
              go_wp2_with fail
              refine ⟨⟨k + 1, by omega, by go_num, FZ, by unfold Hid; rw [NS2.out, List.length_append, HSN.out]; exact O9.out, B9⟩, ?_⟩
              simp [intOf]; omega
          · have EF := hid (E.out.trans (STY.out hz))
            have LF := hid (LN.out (by rw [STY.out hz]; exact hz))
            have t : (useE l ⟨u1, u2, u3⟩ != 0) = true := by simpa using hz
            clear STY FR hz OA x0 x1 x2
            generalize useE l ⟨u1, u2, u3⟩ = UE at *
            have BE := hid (B2.out.trans ((TW.out _ B7.out).mono B2.out.size))
            go_wp2_with fail
            go_ret2
            exact ⟨_, ret_u EF.out, by rw [LF.out]; exact OwnE.nil _ _ _ _ _, BE.out⟩
    · obtain rfl : n = k := by omega
      have e0 : nd.length = n := HN.out
      have EF : Hid (starvE l ls nd = 0) := by unfold Hid; rw [E.out, e0]; exact hE.out
      have LF : Hid (starvL l ls nd = stT (fun id => qfT l id l.length) (fun q => useT ls q ls.length) nd n) := by
        have := LY.out (by rw [e0]; exact hE.out)
        rw [e0] at this
        exact this
      have BE := hid (B2.out.trans (hB.out.mono B2.out.size))
      generalize stT (fun id => qfT l id l.length) (fun q => useT ls q ls.length) nd n = ST at *
      go_wp2_with fail
      go_ret2
      exact ⟨_, ret_u EF.out, by rw [LF.out]; exact hO.out.weaken B2.out.size, BE.out⟩
end Go.Proofs.YtdbkjcnanffibaaGreat

namespace Go.Proofs.YtdbkjcnanffibaaGreat
open Go.RowKit Go.Deep Go.Maps Go.Shelf
set_option linter.unusedVariables false
set_option linter.unusedSimpArgs false

theorem ndE_zero {l : List Qu} {nd : List Us} (h : ndE l nd nd.length = 0) {k : Nat} (hk : k < nd.length) : useE l (ua nd k) = 0 := by
  have h1 : ndE l nd (k + 1) = 0 := Classical.byContradiction (fun hn => by rw [ndE_stay hn (by omega)] at h; exact hn h)
  have h2 : ndE l nd k = 0 := Classical.byContradiction (fun hn => by rw [ndE_stay hn (show k ≤ nd.length by omega)] at h; exact hn h)
  have h3 : ndE l nd (k + 1) = if 0 < k ∧ (ua nd k).qu ≤ (ua nd (k - 1)).qu then 4 else useE l (ua nd k) := by
    show (if ndE l nd k ≠ 0 then _ else _) = _
    rw [if_neg (by rw [h2]; simp)]
  rw [h3] at h1
  split at h1
  · cases h1
  · exact h1
/-- Who is starved, as the document has it. -/
theorem st_doc {l : List Qu} {ls : List Le} (hok : ∀ x ∈ ls, x.okB) (h : readE l ls = 0) {u : Us} (hu : useE l u = 0) :
    stB (fun id => qfT l id l.length) (fun q => useT ls q ls.length) u.qu u.uc u.um = fitB ((vecAt l (useV ls) (pl l u.qu)).1 + u.uc) ((vecAt l (useV ls) (pl l u.qu)).2 + u.um) (qa l (pl l u.qu)).mc (qa l (pl l u.qu)).mm := by
  obtain ⟨z1, z2, z3, z4⟩ := useE_zero hu
  have hp : pl l u.qu < l.length := of_decide_eq_true z1
  have hG := chkE_ok.1 (readE_parts h).1
  have hq : qfT l u.qu l.length = some (qa l (pl l u.qu)) := qfT_at hG.2.1 hp
  rw [cT_leaf hok h z1 z2]
  have hg := fitT_ok (q := u.qu) (useErr_gd (readE_parts h).2.1).2
  have hm := (arg_at hG.2.2.1 (qa_mem hp)).2.2
  unfold stB
  simp only [hq, Option.getD_some]
  obtain ⟨G, hGG⟩ : ∃ G, useT ls u.qu ls.length = G := ⟨_, rfl⟩
  rw [hGG] at hg
  simp only [hGG]
  clear hGG
  obtain ⟨g1, g2⟩ := G
  have hu2 : okv (u.uc, u.um) = true := okv_of z3 z4
  rw [(rop_yes (s := (g1 + u.uc, g2 + u.um)) (by simp [hg, hu2])).1]
  unfold rin
  cases ho : okv (g1 + u.uc, g2 + u.um) with
  | true => simp
  | false =>
    obtain ⟨⟨m1, m2⟩, m3, m4⟩ := okv_true hm
    obtain ⟨⟨a1, a2⟩, a3, a4⟩ := okv_true hg
    have hn := okv_false ho
    unfold okp at hn z3 z4
    simp only at m1 m2 m3 m4 a1 a2 a3 a4 hn
    have : fitB (g1 + u.uc) (g2 + u.um) (qa l (pl l u.qu)).mc (qa l (pl l u.qu)).mm = false := by
      unfold fitB
      rw [Bool.and_eq_false_iff, decide_eq_false_iff_not, decide_eq_false_iff_not]
      omega
    rw [this]
    simp

set_option maxRecDepth 100000 in
set_option maxHeartbeats 8000000 in
theorem rstarved_good (lb lo len cap : Nat) (l : List Qu) (b : Option Addr) (ln cp : Nat) (ls : List Le) (ub : Option Addr) (n uc : Nat) (nd : List Us) (w : World) (h : HoldsQ w (some ⟨lb, lo, none⟩) len cap l) (hok : ∀ q ∈ l, q.ok) (hl : HoldsL w b ln cp ls) (hlo : ∀ x ∈ ls, x.okB) (hn : ln * 64 ≤ 140737488355328) (hu : HoldsU w ub n uc nd) (hnn : n * 8 ≤ 140737488355328) (hR : readE l ls = 0) :
    Calls Tryz.prog 7 #[.slice (some ⟨lb, lo, none⟩) len cap, .slice b ln cp, .slice ub n uc] w fun e w' => ∃ v, e = .returned (.tuple #[v, .int .i64 (starvE l ls nd)]) ∧ OwnN w.heap.size w' v (starvL l ls nd).length (starvL l ls nd) ∧ Below w.heap.size w w' := by
  have hC := (readE_parts hR).1
  have hG := chkE_ok.1 hC
  have HLl := hid h.1
  have lcap := h.2.1
  have hle : len ≤ 64 := by rw [← HLl.out]; exact hG.1
  have hpos : 0 < len := by rw [← HLl.out]; exact hG.2.1.1
  have HF := hid hG.2.1
  have HH := hid h
  have HU := hid hu
  have HN := hid hu.1
  have ucap := hu.2.1
  have ucm := hu.2.2.1
  have E := hid (show starvE l ls nd = ndE l nd nd.length by unfold starvE; rw [if_pos hR])
  have LY := hid (fun (hz : ndE l nd nd.length = 0) => (show starvL l ls nd = stT (fun id => qfT l id l.length) (fun q => useT ls q ls.length) nd nd.length from by unfold starvL; rw [if_pos (by rw [E.out]; exact hz)]))
  have LN := hid (fun (hz : ndE l nd nd.length ≠ 0) => starvL_no (l := l) (ls := ls) (nd := nd) (by rw [E.out]; exact hz))
  have S1 := hid (rsums8_any (some ⟨lb, lo, none⟩) len cap l b ln cp ls w h hl hlo hn)
  have hvl : vecsL l ls = vecsTo l (useV ls) len := by unfold vecsL; rw [if_pos hR, HLl.out]
  rw [hR, hvl, vecsTo_len] at S1
  have HAS := hid (fun id W (hW : Below w.heap.size w W) => rhas_any (some ⟨lb, lo, none⟩) len cap l id W (h.below hW))
  have LEA := hid (fun id W (hW : Below w.heap.size w W) => rleaf_any lb lo len cap l id W (h.below hW) hpos hle)
  have LEA2 : Hid (∀ id W, Below w.heap.size w W → Calls Tryz.prog 17 #[.slice (some ⟨lb, lo, none⟩) len cap, .int .i64 id] W fun e w' => e = .returned (.bool (hasQ l id && leafB l id)) ∧ Below W.heap.size W w') := fun id W hW => LEA.out id W hW
  have STD := hid (fun u (hz : useE l u = 0) => st_doc hlo hR hz)
  have NZ := hid (fun (hz : ndE l nd nd.length = 0) k (hk : k < nd.length) => ndE_zero hz hk)
  have FAT := hid (fun i (hi : i < l.length) => fits_at (sumsE_zero (readE_parts hR).2.2).2 hi)
  clear h hok hl hlo hu hR hC hG hvl LEA
  go_enter Tryz.func7, Tryz.ntmps7
  go_wp2_with fail
  with_reducible refine S1.out.mono ?_
  rintro e w4 ⟨v4, rfl, o4, b4⟩
  have B4 := hid b4
  obtain ⟨sa0, sc, rfl⟩ := o4.form
  have HV := hid (o4.holds encV_len)
  clear o4 b4 S1
  go_wp2_with fail
  go_loopw [27] (fun i wr => ∃ k : Nat, k ≤ n ∧ i = .int .i64 (k : Int) ∧ Hid (ndE l nd k = 0) ∧ Hid (Below w4.heap.size w4 wr)) (fun i _ => n - (intOf i).toNat)
  case atStart => exact ⟨0, by omega, rfl, rfl, Below.refl _ _⟩
  case round =>
    obtain ⟨k, hk, rfl, hE, hB⟩ := hrel
    by_cases hlt : k < n
    · have hlt' : k < nd.length := by rw [HN.out]; exact hlt
      obtain ⟨ub, uo, rfl, RU⟩ := HU.out.rowU (by omega)
      have BW := hid (B4.out.trans (hB.out.mono B4.out.size))
      obtain ⟨r0, r1, r2⟩ := RU k hlt
      have c0 := keepc BW.out r0
      have c1 := keepc BW.out r1
      have c2 := keepc BW.out r2
      have RUH := hid RU
      have HAS := HAS
      have LEA := LEA2
      have NE : Hid (ndE l nd (k + 1) = if 0 < k ∧ (ua nd k).qu ≤ (ua nd (k - 1)).qu then 4 else useE l (ua nd k)) := by
        show (if ndE l nd k ≠ 0 then _ else _) = _
        rw [if_neg (by rw [hE.out]; simp)]
      have STY := hid (fun (hne : ndE l nd (k + 1) ≠ 0) => ndE_stay hne (n := nd.length) (by omega))
      have ka : (0 : Int) ≤ (k : Int) := by omega
      have kb : (k : Int) < (n : Int) := by omega
      clear r0 r1 r2 RU
      generalize hx : ua nd k = x at *
      clear hx
      obtain ⟨u1, u2, u3⟩ := x
      simp only at c0 c1 c2
      have BA := hid (hB.out.alloc hB.out.size (.cells #[.int .i64 u1, .int .i64 u2, .int .i64 u3] 44))
      have y0 : (wr.alloc (.cells #[.int .i64 u1, .int .i64 u2, .int .i64 u3] 44)).cell? ⟨wr.heap.size, 0, none⟩ = some (.int .i64 u1) := by simp [go_sem]
      have y1 : (wr.alloc (.cells #[.int .i64 u1, .int .i64 u2, .int .i64 u3] 44)).cell? ⟨wr.heap.size, 1, none⟩ = some (.int .i64 u2) := by simp [go_sem]
      have y2 : (wr.alloc (.cells #[.int .i64 u1, .int .i64 u2, .int .i64 u3] 44)).cell? ⟨wr.heap.size, 2, none⟩ = some (.int .i64 u3) := by simp [go_sem]
      have PR := hid (fun (j : Nat) (hj : j < n) => keepc (B4.out.trans (BA.out.mono B4.out.size)) (RUH.out j hj).1)
      go_upto_region 7 with fail
      clear c0 c1 c2 RUH BW
      generalize (wr.alloc (.cells #[.int .i64 u1, .int .i64 u2, .int .i64 u3] 44)) = w6 at *
      generalize wr.heap.size = QK at *
      have T4 := hid (fun W (hW : Below w6.heap.size w6 W) => BA.out.trans (hW.mono BA.out.size))
      have TW := hid (fun W (hW : Below w6.heap.size w6 W) => B4.out.trans ((T4.out W hW).mono B4.out.size))
      have BX := hid (Below.drew (Below.refl w6.heap.size w6))
      have x0 := drewc y0
      have x1 := drewc y1
      have x2 := drewc y2
      have FRM : Hid (¬ (0 < k ∧ u1 ≤ (ua nd (k - 1)).qu) → ndE l nd (k + 1) = useE l ⟨u1, u2, u3⟩) := fun h => by rw [NE.out, if_neg h]
      have OUT : Hid (0 < k ∧ u1 ≤ (ua nd (k - 1)).qu → ndE l nd (k + 1) = 4) := fun h => by rw [NE.out, if_pos h]
      clear NE
      by_cases h0 : k = 0
      · have FR := hid (FRM.out (by omega))
        have H0 := hid h0
        clear FRM OUT PR h0
        refine wp_region_held_drew (S := (fun w' => True)) (by kernel_rfl) trivial (fun hHeld => ?_)
        refine wpAnyH_take (i := 0) (v := .int .i64 (k : Int)) rfl (by kernel_rfl) (by kernel_rfl) (by kernel_rfl) (fun _ _ _ h => h) (Or.inl ⟨by rfl, ?_⟩) (by assumption) ?_
        · (intro w hSw; (try dsimp only at hSw); go_simp <;> (try exact H0.out))
        (try simp only [Act.put, List.getElem_toArray, List.getElem_cons_succ, List.getElem_cons_zero, List.setIfInBounds_toArray, List.set_cons_zero, List.set_cons_succ])
        refine wpAnyH_take (i := 1) (v := .bool false) rfl (by kernel_rfl) (by kernel_rfl) (by kernel_rfl) (fun _ _ _ h => h) (Or.inl ⟨by rfl, ?_⟩) (by assumption) ?_
        · (intro w hSw; (try dsimp only at hSw); go_simp <;> (try exact H0.out))
        (try simp only [Act.put, List.getElem_toArray, List.getElem_cons_succ, List.getElem_cons_zero, List.setIfInBounds_toArray, List.set_cons_zero, List.set_cons_succ])
        refine wpAnyH_take (i := 2) (v := .bool false) rfl (by kernel_rfl) (by kernel_rfl) (by kernel_rfl) (fun _ _ _ h => h) (Or.inl ⟨by rfl, ?_⟩) (by assumption) ?_
        · (intro w hSw; (try dsimp only at hSw); go_simp <;> (try exact H0.out))
        (try simp only [Act.put, List.getElem_toArray, List.getElem_cons_succ, List.getElem_cons_zero, List.setIfInBounds_toArray, List.set_cons_zero, List.set_cons_succ])
        refine wpAnyH_take (i := 3) (v := undef) rfl (by kernel_rfl) (by kernel_rfl) (by kernel_rfl) (fun _ _ _ h => h) (Or.inr ⟨by rfl, rfl⟩) (by assumption) ?_
        (try simp only [Act.put, List.getElem_toArray, List.getElem_cons_succ, List.getElem_cons_zero, List.setIfInBounds_toArray, List.set_cons_zero, List.set_cons_succ])
        refine wpAnyH_take (i := 4) (v := undef) rfl (by kernel_rfl) (by kernel_rfl) (by kernel_rfl) (fun _ _ _ h => h) (Or.inr ⟨by rfl, rfl⟩) (by assumption) ?_
        (try simp only [Act.put, List.getElem_toArray, List.getElem_cons_succ, List.getElem_cons_zero, List.setIfInBounds_toArray, List.set_cons_zero, List.set_cons_succ])
        refine wpAnyH_take (i := 5) (v := undef) rfl (by kernel_rfl) (by kernel_rfl) (by kernel_rfl) (fun _ _ _ h => h) (Or.inr ⟨by rfl, rfl⟩) (by assumption) ?_
        (try simp only [Act.put, List.getElem_toArray, List.getElem_cons_succ, List.getElem_cons_zero, List.setIfInBounds_toArray, List.set_cons_zero, List.set_cons_succ])
        refine wpAnyH_take (i := 6) (v := undef) rfl (by kernel_rfl) (by kernel_rfl) (by kernel_rfl) (fun _ _ _ h => h) (Or.inr ⟨by rfl, rfl⟩) (by assumption) ?_
        (try simp only [Act.put, List.getElem_toArray, List.getElem_cons_succ, List.getElem_cons_zero, List.setIfInBounds_toArray, List.set_cons_zero, List.set_cons_succ])
        refine wpAnyH_take (i := 7) (v := undef) rfl (by kernel_rfl) (by kernel_rfl) (by kernel_rfl) (fun _ _ _ h => h) (Or.inr ⟨by rfl, rfl⟩) (by assumption) ?_
        (try simp only [Act.put, List.getElem_toArray, List.getElem_cons_succ, List.getElem_cons_zero, List.setIfInBounds_toArray, List.set_cons_zero, List.set_cons_succ])
        refine wpAnyH_take (i := 8) (v := undef) rfl (by kernel_rfl) (by kernel_rfl) (by kernel_rfl) (fun _ _ _ h => h) (Or.inr ⟨by rfl, rfl⟩) (by assumption) ?_
        (try simp only [Act.put, List.getElem_toArray, List.getElem_cons_succ, List.getElem_cons_zero, List.setIfInBounds_toArray, List.set_cons_zero, List.set_cons_succ])
        refine wpAnyH_take (i := 9) (v := undef) rfl (by kernel_rfl) (by kernel_rfl) (by kernel_rfl) (fun _ _ _ h => h) (Or.inr ⟨by rfl, rfl⟩) (by assumption) ?_
        (try simp only [Act.put, List.getElem_toArray, List.getElem_cons_succ, List.getElem_cons_zero, List.setIfInBounds_toArray, List.set_cons_zero, List.set_cons_succ])
        refine wpAnyH_take (i := 10) (v := undef) rfl (by kernel_rfl) (by kernel_rfl) (by kernel_rfl) (fun _ _ _ h => h) (Or.inr ⟨by rfl, rfl⟩) (by assumption) ?_
        (try simp only [Act.put, List.getElem_toArray, List.getElem_cons_succ, List.getElem_cons_zero, List.setIfInBounds_toArray, List.set_cons_zero, List.set_cons_succ])
        refine wpAnyH_take (i := 11) (v := undef) rfl (by kernel_rfl) (by kernel_rfl) (by kernel_rfl) (fun _ _ _ h => h) (Or.inr ⟨by rfl, rfl⟩) (by assumption) ?_
        (try simp only [Act.put, List.getElem_toArray, List.getElem_cons_succ, List.getElem_cons_zero, List.setIfInBounds_toArray, List.set_cons_zero, List.set_cons_succ])
        refine wpAnyH_take (i := 12) (v := .bool false) rfl (by kernel_rfl) (by kernel_rfl) (by kernel_rfl) (fun _ _ _ h => h) (Or.inl ⟨by rfl, ?_⟩) (by assumption) ?_
        · (intro w hSw; (try dsimp only at hSw); go_simp <;> (try exact H0.out))
        (try simp only [Act.put, List.getElem_toArray, List.getElem_cons_succ, List.getElem_cons_zero, List.setIfInBounds_toArray, List.set_cons_zero, List.set_cons_succ])
        refine wpAnyH_take (i := 13) (v := .bool false) rfl (by kernel_rfl) (by kernel_rfl) (by kernel_rfl) (fun _ _ _ h => h) (Or.inl ⟨by rfl, ?_⟩) (by assumption) ?_
        · (intro w hSw; (try dsimp only at hSw); go_simp <;> (try exact H0.out))
        (try simp only [Act.put, List.getElem_toArray, List.getElem_cons_succ, List.getElem_cons_zero, List.setIfInBounds_toArray, List.set_cons_zero, List.set_cons_succ])
        refine wpAnyH_done (by kernel_rfl) ?_ _
        clear hHeld 
        rw [FR.out] at STY
        have BW6 := hid (TW.out _ BX.out)
        have HS := hid (HAS.out u1 w6.drew BW6.out)
        have LF_ := hid (fun W hW => LEA.out u1 W hW)
        have UE : Hid (useE l ⟨u1, u2, u3⟩ = if hasQ l u1 = false then 8 else if leafB l u1 = false then 14 else chk u2 u3) := rfl
        have GO := hid (fun W => good_any u2 u3 W)
        clear HAS LEA
        cases hh : hasQ l u1 with
        | false =>
          have UE2 := hid (UE.out.trans (if_pos hh))
          rw [UE2.out] at STY
          have EF := hid (E.out.trans (STY.out (by decide)))
          have LF := hid (LN.out (by rw [STY.out (by decide)]; decide))
          rw [hh] at HS
          clear STY FR UE LF_ GO hh
          go_wp2_with fail
          with_reducible refine HS.out.mono ?_
          rintro e w7 ⟨rfl, b7⟩
          have BE := hid (BW6.out.trans (b7.mono BW6.out.size))
          clear b7 HS
          go_wp2_with fail
          go_ret2
          exact ⟨_, ret_u EF.out, by rw [LF.out]; exact OwnE.nil _ _ _ _ _, BE.out⟩
        | true =>
          have UE1 := hid (UE.out.trans (if_neg (by rw [hh]; decide)))
          rw [hh] at HS LF_
          clear UE hh
          go_wp2_with fail
          with_reducible refine HS.out.mono ?_
          rintro e w7 ⟨rfl, b7⟩
          have B7 := hid (BX.out.trans (b7.mono BX.out.size))
          have BW7 := hid (TW.out _ B7.out)
          replace x0 := keepc b7 x0
          replace x1 := keepc b7 x1
          replace x2 := keepc b7 x2
          clear b7 HS BW6
          have L7 := hid (LF_.out w7 BW7.out)
          clear LF_
          cases hl_ : leafB l u1 with
          | false =>
            have UE2 := hid (UE1.out.trans (if_pos hl_))
            rw [UE2.out] at STY
            have EF := hid (E.out.trans (STY.out (by decide)))
            have LF := hid (LN.out (by rw [STY.out (by decide)]; decide))
            rw [hl_] at L7
            clear STY FR UE1 GO hl_
            go_wp2_with fail
            with_reducible refine L7.out.mono ?_
            rintro e w8 ⟨rfl, b8⟩
            have BE := hid (BW7.out.trans (b8.mono BW7.out.size))
            clear b8 L7
            go_wp2_with fail
            go_ret2
            exact ⟨_, ret_u EF.out, by rw [LF.out]; exact OwnE.nil _ _ _ _ _, BE.out⟩
          | true =>
            have UE2 := hid (UE1.out.trans (if_neg (by rw [hl_]; decide)))
            rw [hl_] at L7
            clear UE1 hl_
            go_wp2_with fail
            with_reducible refine L7.out.mono ?_
            rintro e w8 ⟨rfl, b8⟩
            have B8 := hid (B7.out.trans (b8.mono B7.out.size))
            have BW8 := hid (TW.out _ B8.out)
            replace x1 := keepc b8 x1
            replace x2 := keepc b8 x2
            clear b8 L7 BW7
            cases hg : okv (u2, u3) with
            | false =>
              have UE3 := hid (UE2.out.trans (chk_no hg))
              rw [UE3.out] at STY
              have EF := hid (E.out.trans (STY.out (by decide)))
              have LF := hid (LN.out (by rw [STY.out (by decide)]; decide))
              rw [hg] at GO
              clear STY FR UE2 hg
              go_wp2_with fail
              with_reducible refine (GO.out _).mono ?_
              rintro e w9 ⟨rfl, b9⟩
              have BE := hid (BW8.out.trans (b9.mono BW8.out.size))
              clear b9 GO
              go_wp2_with fail
              go_ret2
              exact ⟨_, ret_u EF.out, by rw [LF.out]; exact OwnE.nil _ _ _ _ _, BE.out⟩
            | true =>
              have FZ : Hid (ndE l nd (k + 1) = 0) := FR.out.trans (UE2.out.trans (chk_ok hg))
              rw [hg] at GO
              clear STY FR UE2 hg
              go_wp2_with fail
              with_reducible refine (GO.out _).mono ?_
              rintro e w9 ⟨rfl, b9⟩
              have B9 := hid (T4.out _ (B8.out.trans (b9.mono B8.out.size)))
              clear b9 GO
              go_wp2_with fail
              refine ⟨⟨k + 1, by omega, by go_num, FZ, B9⟩, ?_⟩
              simp [intOf]; omega
      · have t0 : decide ((0 : Int) < (k : Int)) = true := by simp; omega
        obtain ⟨j, hj⟩ : ∃ j, j = k - 1 := ⟨_, rfl⟩
        have hkj : (k : Int) - 1 = (j : Int) := by omega
        have kj0 : (0 : Int) ≤ (j : Int) := by omega
        have jw : IntKind.i64.wrap (j : Int) = (j : Int) := by rw [IntKind.wrap_i64]; omega
        have kjn : (j : Int) < (n : Int) := by omega
        have p0 := PR.out j (by omega)
        rw [← hj] at FRM OUT
        have h0p : 0 < k := by omega
        clear h0 hj
        generalize (ua nd j).qu = PV at *
        by_cases hle : u1 ≤ PV
        · have tl : decide (u1 ≤ PV) = true := by simpa using hle
          have F4 := OUT.out ⟨h0p, hle⟩
          rw [F4] at STY
          have EF := hid (E.out.trans (STY.out (by decide)))
          have LF := hid (LN.out (by rw [STY.out (by decide)]; decide))
          clear FRM OUT F4 STY PR
          have rg_y0 := drewc y0
          have rg_p0 := drewc p0
          refine wp_region_held_drew (S := (fun w' => w'.cell? ⟨QK, 0, none⟩ = some (.int .i64 u1) ∧ w'.cell? ⟨ub, uo + j * 3, none⟩ = some (.int .i64 PV))) (by kernel_rfl) ⟨rg_y0, rg_p0⟩ (fun hHeld => ?_)
          refine wpAnyH_take (i := 0) (v := .int .i64 (k : Int)) rfl (by kernel_rfl) (by kernel_rfl) (by kernel_rfl) (fun _ _ _ h => h) (Or.inl ⟨by rfl, ?_⟩) (by assumption) ?_
          · (intro w hSw; (try dsimp only at hSw); go_simp)
          (try simp only [Act.put, List.getElem_toArray, List.getElem_cons_succ, List.getElem_cons_zero, List.setIfInBounds_toArray, List.set_cons_zero, List.set_cons_succ])
          refine wpAnyH_take (i := 1) (v := .bool true) rfl (by kernel_rfl) (by kernel_rfl) (by kernel_rfl) (fun _ _ _ h => h) (Or.inl ⟨by rfl, ?_⟩) (by assumption) ?_
          · (intro w hSw; (try dsimp only at hSw); go_simp)
          (try simp only [Act.put, List.getElem_toArray, List.getElem_cons_succ, List.getElem_cons_zero, List.setIfInBounds_toArray, List.set_cons_zero, List.set_cons_succ])
          refine wpAnyH_take (i := 2) (v := .bool true) rfl (by kernel_rfl) (by kernel_rfl) (by kernel_rfl) (fun _ _ _ h => h) (Or.inl ⟨by rfl, ?_⟩) (by assumption) ?_
          · (intro w hSw; (try dsimp only at hSw); go_simp)
          (try simp only [Act.put, List.getElem_toArray, List.getElem_cons_succ, List.getElem_cons_zero, List.setIfInBounds_toArray, List.set_cons_zero, List.set_cons_succ])
          refine wpAnyH_take (i := 3) (v := .slice (some ⟨ub, uo, none⟩) n uc) rfl (by kernel_rfl) (by kernel_rfl) (by kernel_rfl) (fun _ _ _ h => h) (Or.inl ⟨by rfl, ?_⟩) (by assumption) ?_
          · (intro w hSw; (try dsimp only at hSw); go_simp)
          (try simp only [Act.put, List.getElem_toArray, List.getElem_cons_succ, List.getElem_cons_zero, List.setIfInBounds_toArray, List.set_cons_zero, List.set_cons_succ])
          refine wpAnyH_take (i := 4) (v := .int .i64 (k : Int)) rfl (by kernel_rfl) (by kernel_rfl) (by kernel_rfl) (fun _ _ _ h => h) (Or.inl ⟨by rfl, ?_⟩) (by assumption) ?_
          · (intro w hSw; (try dsimp only at hSw); go_simp)
          (try simp only [Act.put, List.getElem_toArray, List.getElem_cons_succ, List.getElem_cons_zero, List.setIfInBounds_toArray, List.set_cons_zero, List.set_cons_succ])
          refine wpAnyH_take (i := 5) (v := .int .i64 (j : Int)) rfl (by kernel_rfl) (by kernel_rfl) (by kernel_rfl) (fun _ _ _ h => h) (Or.inl ⟨by rfl, ?_⟩) (by assumption) ?_
          · (intro w hSw; (try dsimp only at hSw); go_simp)
          (try simp only [Act.put, List.getElem_toArray, List.getElem_cons_succ, List.getElem_cons_zero, List.setIfInBounds_toArray, List.set_cons_zero, List.set_cons_succ])
          refine wpAnyH_take (i := 6) (v := .pointer (some ⟨ub, uo + j * 3, none⟩)) rfl (by kernel_rfl) (by kernel_rfl) (by kernel_rfl) (fun _ _ _ h => h) (Or.inl ⟨by rfl, ?_⟩) (by assumption) ?_
          · (intro w hSw; (try dsimp only at hSw); go_simp)
          (try simp only [Act.put, List.getElem_toArray, List.getElem_cons_succ, List.getElem_cons_zero, List.setIfInBounds_toArray, List.set_cons_zero, List.set_cons_succ])
          refine wpAnyH_take (i := 7) (v := .pointer (some ⟨ub, uo + j * 3, none⟩)) rfl (by kernel_rfl) (by kernel_rfl) (by kernel_rfl) (fun _ _ _ h => h) (Or.inl ⟨by rfl, ?_⟩) (by assumption) ?_
          · (intro w hSw; (try dsimp only at hSw); go_simp)
          (try simp only [Act.put, List.getElem_toArray, List.getElem_cons_succ, List.getElem_cons_zero, List.setIfInBounds_toArray, List.set_cons_zero, List.set_cons_succ])
          refine wpAnyH_take (i := 8) (v := .int .i64 PV) rfl (by kernel_rfl) (by kernel_rfl) (by kernel_rfl) (fun _ _ _ h => h) (Or.inl ⟨by rfl, ?_⟩) (by assumption) ?_
          · (intro w hSw; (try dsimp only at hSw); go_simp)
          (try simp only [Act.put, List.getElem_toArray, List.getElem_cons_succ, List.getElem_cons_zero, List.setIfInBounds_toArray, List.set_cons_zero, List.set_cons_succ])
          refine wpAnyH_take (i := 9) (v := .pointer (some ⟨QK, 0, none⟩)) rfl (by kernel_rfl) (by kernel_rfl) (by kernel_rfl) (fun _ _ _ h => h) (Or.inl ⟨by rfl, ?_⟩) (by assumption) ?_
          · (intro w hSw; (try dsimp only at hSw); go_simp)
          (try simp only [Act.put, List.getElem_toArray, List.getElem_cons_succ, List.getElem_cons_zero, List.setIfInBounds_toArray, List.set_cons_zero, List.set_cons_succ])
          refine wpAnyH_take (i := 10) (v := .int .i64 u1) rfl (by kernel_rfl) (by kernel_rfl) (by kernel_rfl) (fun _ _ _ h => h) (Or.inl ⟨by rfl, ?_⟩) (by assumption) ?_
          · (intro w hSw; (try dsimp only at hSw); go_simp)
          (try simp only [Act.put, List.getElem_toArray, List.getElem_cons_succ, List.getElem_cons_zero, List.setIfInBounds_toArray, List.set_cons_zero, List.set_cons_succ])
          refine wpAnyH_take (i := 11) (v := .bool true) rfl (by kernel_rfl) (by kernel_rfl) (by kernel_rfl) (fun _ _ _ h => h) (Or.inl ⟨by rfl, ?_⟩) (by assumption) ?_
          · (intro w hSw; (try dsimp only at hSw); go_simp)
          (try simp only [Act.put, List.getElem_toArray, List.getElem_cons_succ, List.getElem_cons_zero, List.setIfInBounds_toArray, List.set_cons_zero, List.set_cons_succ])
          refine wpAnyH_take (i := 12) (v := .bool true) rfl (by kernel_rfl) (by kernel_rfl) (by kernel_rfl) (fun _ _ _ h => h) (Or.inl ⟨by rfl, ?_⟩) (by assumption) ?_
          · (intro w hSw; (try dsimp only at hSw); go_simp)
          (try simp only [Act.put, List.getElem_toArray, List.getElem_cons_succ, List.getElem_cons_zero, List.setIfInBounds_toArray, List.set_cons_zero, List.set_cons_succ])
          refine wpAnyH_take (i := 13) (v := .bool true) rfl (by kernel_rfl) (by kernel_rfl) (by kernel_rfl) (fun _ _ _ h => h) (Or.inl ⟨by rfl, ?_⟩) (by assumption) ?_
          · (intro w hSw; (try dsimp only at hSw); go_simp)
          (try simp only [Act.put, List.getElem_toArray, List.getElem_cons_succ, List.getElem_cons_zero, List.setIfInBounds_toArray, List.set_cons_zero, List.set_cons_succ])
          refine wpAnyH_done (by kernel_rfl) ?_ _
          clear hHeld rg_y0 rg_p0
          have BE := hid (TW.out _ BX.out)
          go_wp2_with fail
          go_ret2
          exact ⟨_, ret_u EF.out, by rw [LF.out]; exact OwnE.nil _ _ _ _ _, BE.out⟩
        · have tl : decide (u1 ≤ PV) = false := by simpa using hle
          have FR := hid (FRM.out (fun h => hle h.2))
          clear FRM OUT PR
          have rg_y0 := drewc y0
          have rg_p0 := drewc p0
          refine wp_region_held_drew (S := (fun w' => w'.cell? ⟨QK, 0, none⟩ = some (.int .i64 u1) ∧ w'.cell? ⟨ub, uo + j * 3, none⟩ = some (.int .i64 PV))) (by kernel_rfl) ⟨rg_y0, rg_p0⟩ (fun hHeld => ?_)
          refine wpAnyH_take (i := 0) (v := .int .i64 (k : Int)) rfl (by kernel_rfl) (by kernel_rfl) (by kernel_rfl) (fun _ _ _ h => h) (Or.inl ⟨by rfl, ?_⟩) (by assumption) ?_
          · (intro w hSw; (try dsimp only at hSw); go_simp)
          (try simp only [Act.put, List.getElem_toArray, List.getElem_cons_succ, List.getElem_cons_zero, List.setIfInBounds_toArray, List.set_cons_zero, List.set_cons_succ])
          refine wpAnyH_take (i := 1) (v := .bool true) rfl (by kernel_rfl) (by kernel_rfl) (by kernel_rfl) (fun _ _ _ h => h) (Or.inl ⟨by rfl, ?_⟩) (by assumption) ?_
          · (intro w hSw; (try dsimp only at hSw); go_simp)
          (try simp only [Act.put, List.getElem_toArray, List.getElem_cons_succ, List.getElem_cons_zero, List.setIfInBounds_toArray, List.set_cons_zero, List.set_cons_succ])
          refine wpAnyH_take (i := 2) (v := .bool true) rfl (by kernel_rfl) (by kernel_rfl) (by kernel_rfl) (fun _ _ _ h => h) (Or.inl ⟨by rfl, ?_⟩) (by assumption) ?_
          · (intro w hSw; (try dsimp only at hSw); go_simp)
          (try simp only [Act.put, List.getElem_toArray, List.getElem_cons_succ, List.getElem_cons_zero, List.setIfInBounds_toArray, List.set_cons_zero, List.set_cons_succ])
          refine wpAnyH_take (i := 3) (v := .slice (some ⟨ub, uo, none⟩) n uc) rfl (by kernel_rfl) (by kernel_rfl) (by kernel_rfl) (fun _ _ _ h => h) (Or.inl ⟨by rfl, ?_⟩) (by assumption) ?_
          · (intro w hSw; (try dsimp only at hSw); go_simp)
          (try simp only [Act.put, List.getElem_toArray, List.getElem_cons_succ, List.getElem_cons_zero, List.setIfInBounds_toArray, List.set_cons_zero, List.set_cons_succ])
          refine wpAnyH_take (i := 4) (v := .int .i64 (k : Int)) rfl (by kernel_rfl) (by kernel_rfl) (by kernel_rfl) (fun _ _ _ h => h) (Or.inl ⟨by rfl, ?_⟩) (by assumption) ?_
          · (intro w hSw; (try dsimp only at hSw); go_simp)
          (try simp only [Act.put, List.getElem_toArray, List.getElem_cons_succ, List.getElem_cons_zero, List.setIfInBounds_toArray, List.set_cons_zero, List.set_cons_succ])
          refine wpAnyH_take (i := 5) (v := .int .i64 (j : Int)) rfl (by kernel_rfl) (by kernel_rfl) (by kernel_rfl) (fun _ _ _ h => h) (Or.inl ⟨by rfl, ?_⟩) (by assumption) ?_
          · (intro w hSw; (try dsimp only at hSw); go_simp)
          (try simp only [Act.put, List.getElem_toArray, List.getElem_cons_succ, List.getElem_cons_zero, List.setIfInBounds_toArray, List.set_cons_zero, List.set_cons_succ])
          refine wpAnyH_take (i := 6) (v := .pointer (some ⟨ub, uo + j * 3, none⟩)) rfl (by kernel_rfl) (by kernel_rfl) (by kernel_rfl) (fun _ _ _ h => h) (Or.inl ⟨by rfl, ?_⟩) (by assumption) ?_
          · (intro w hSw; (try dsimp only at hSw); go_simp)
          (try simp only [Act.put, List.getElem_toArray, List.getElem_cons_succ, List.getElem_cons_zero, List.setIfInBounds_toArray, List.set_cons_zero, List.set_cons_succ])
          refine wpAnyH_take (i := 7) (v := .pointer (some ⟨ub, uo + j * 3, none⟩)) rfl (by kernel_rfl) (by kernel_rfl) (by kernel_rfl) (fun _ _ _ h => h) (Or.inl ⟨by rfl, ?_⟩) (by assumption) ?_
          · (intro w hSw; (try dsimp only at hSw); go_simp)
          (try simp only [Act.put, List.getElem_toArray, List.getElem_cons_succ, List.getElem_cons_zero, List.setIfInBounds_toArray, List.set_cons_zero, List.set_cons_succ])
          refine wpAnyH_take (i := 8) (v := .int .i64 PV) rfl (by kernel_rfl) (by kernel_rfl) (by kernel_rfl) (fun _ _ _ h => h) (Or.inl ⟨by rfl, ?_⟩) (by assumption) ?_
          · (intro w hSw; (try dsimp only at hSw); go_simp)
          (try simp only [Act.put, List.getElem_toArray, List.getElem_cons_succ, List.getElem_cons_zero, List.setIfInBounds_toArray, List.set_cons_zero, List.set_cons_succ])
          refine wpAnyH_take (i := 9) (v := .pointer (some ⟨QK, 0, none⟩)) rfl (by kernel_rfl) (by kernel_rfl) (by kernel_rfl) (fun _ _ _ h => h) (Or.inl ⟨by rfl, ?_⟩) (by assumption) ?_
          · (intro w hSw; (try dsimp only at hSw); go_simp)
          (try simp only [Act.put, List.getElem_toArray, List.getElem_cons_succ, List.getElem_cons_zero, List.setIfInBounds_toArray, List.set_cons_zero, List.set_cons_succ])
          refine wpAnyH_take (i := 10) (v := .int .i64 u1) rfl (by kernel_rfl) (by kernel_rfl) (by kernel_rfl) (fun _ _ _ h => h) (Or.inl ⟨by rfl, ?_⟩) (by assumption) ?_
          · (intro w hSw; (try dsimp only at hSw); go_simp)
          (try simp only [Act.put, List.getElem_toArray, List.getElem_cons_succ, List.getElem_cons_zero, List.setIfInBounds_toArray, List.set_cons_zero, List.set_cons_succ])
          refine wpAnyH_take (i := 11) (v := .bool false) rfl (by kernel_rfl) (by kernel_rfl) (by kernel_rfl) (fun _ _ _ h => h) (Or.inl ⟨by rfl, ?_⟩) (by assumption) ?_
          · (intro w hSw; (try dsimp only at hSw); go_simp)
          (try simp only [Act.put, List.getElem_toArray, List.getElem_cons_succ, List.getElem_cons_zero, List.setIfInBounds_toArray, List.set_cons_zero, List.set_cons_succ])
          refine wpAnyH_take (i := 12) (v := .bool false) rfl (by kernel_rfl) (by kernel_rfl) (by kernel_rfl) (fun _ _ _ h => h) (Or.inl ⟨by rfl, ?_⟩) (by assumption) ?_
          · (intro w hSw; (try dsimp only at hSw); go_simp)
          (try simp only [Act.put, List.getElem_toArray, List.getElem_cons_succ, List.getElem_cons_zero, List.setIfInBounds_toArray, List.set_cons_zero, List.set_cons_succ])
          refine wpAnyH_take (i := 13) (v := .bool false) rfl (by kernel_rfl) (by kernel_rfl) (by kernel_rfl) (fun _ _ _ h => h) (Or.inl ⟨by rfl, ?_⟩) (by assumption) ?_
          · (intro w hSw; (try dsimp only at hSw); go_simp)
          (try simp only [Act.put, List.getElem_toArray, List.getElem_cons_succ, List.getElem_cons_zero, List.setIfInBounds_toArray, List.set_cons_zero, List.set_cons_succ])
          refine wpAnyH_done (by kernel_rfl) ?_ _
          clear hHeld rg_y0 rg_p0
          rw [FR.out] at STY
          have BW6 := hid (TW.out _ BX.out)
          have HS := hid (HAS.out u1 w6.drew BW6.out)
          have LF_ := hid (fun W hW => LEA.out u1 W hW)
          have UE : Hid (useE l ⟨u1, u2, u3⟩ = if hasQ l u1 = false then 8 else if leafB l u1 = false then 14 else chk u2 u3) := rfl
          have GO := hid (fun W => good_any u2 u3 W)
          clear HAS LEA
          cases hh : hasQ l u1 with
          | false =>
            have UE2 := hid (UE.out.trans (if_pos hh))
            rw [UE2.out] at STY
            have EF := hid (E.out.trans (STY.out (by decide)))
            have LF := hid (LN.out (by rw [STY.out (by decide)]; decide))
            rw [hh] at HS
            clear STY FR UE LF_ GO hh
            go_wp2_with fail
            with_reducible refine HS.out.mono ?_
            rintro e w7 ⟨rfl, b7⟩
            have BE := hid (BW6.out.trans (b7.mono BW6.out.size))
            clear b7 HS
            go_wp2_with fail
            go_ret2
            exact ⟨_, ret_u EF.out, by rw [LF.out]; exact OwnE.nil _ _ _ _ _, BE.out⟩
          | true =>
            have UE1 := hid (UE.out.trans (if_neg (by rw [hh]; decide)))
            rw [hh] at HS LF_
            clear UE hh
            go_wp2_with fail
            with_reducible refine HS.out.mono ?_
            rintro e w7 ⟨rfl, b7⟩
            have B7 := hid (BX.out.trans (b7.mono BX.out.size))
            have BW7 := hid (TW.out _ B7.out)
            replace x0 := keepc b7 x0
            replace x1 := keepc b7 x1
            replace x2 := keepc b7 x2
            clear b7 HS BW6
            have L7 := hid (LF_.out w7 BW7.out)
            clear LF_
            cases hl_ : leafB l u1 with
            | false =>
              have UE2 := hid (UE1.out.trans (if_pos hl_))
              rw [UE2.out] at STY
              have EF := hid (E.out.trans (STY.out (by decide)))
              have LF := hid (LN.out (by rw [STY.out (by decide)]; decide))
              rw [hl_] at L7
              clear STY FR UE1 GO hl_
              go_wp2_with fail
              with_reducible refine L7.out.mono ?_
              rintro e w8 ⟨rfl, b8⟩
              have BE := hid (BW7.out.trans (b8.mono BW7.out.size))
              clear b8 L7
              go_wp2_with fail
              go_ret2
              exact ⟨_, ret_u EF.out, by rw [LF.out]; exact OwnE.nil _ _ _ _ _, BE.out⟩
            | true =>
              have UE2 := hid (UE1.out.trans (if_neg (by rw [hl_]; decide)))
              rw [hl_] at L7
              clear UE1 hl_
              go_wp2_with fail
              with_reducible refine L7.out.mono ?_
              rintro e w8 ⟨rfl, b8⟩
              have B8 := hid (B7.out.trans (b8.mono B7.out.size))
              have BW8 := hid (TW.out _ B8.out)
              replace x1 := keepc b8 x1
              replace x2 := keepc b8 x2
              clear b8 L7 BW7
              cases hg : okv (u2, u3) with
              | false =>
                have UE3 := hid (UE2.out.trans (chk_no hg))
                rw [UE3.out] at STY
                have EF := hid (E.out.trans (STY.out (by decide)))
                have LF := hid (LN.out (by rw [STY.out (by decide)]; decide))
                rw [hg] at GO
                clear STY FR UE2 hg
                go_wp2_with fail
                with_reducible refine (GO.out _).mono ?_
                rintro e w9 ⟨rfl, b9⟩
                have BE := hid (BW8.out.trans (b9.mono BW8.out.size))
                clear b9 GO
                go_wp2_with fail
                go_ret2
                exact ⟨_, ret_u EF.out, by rw [LF.out]; exact OwnE.nil _ _ _ _ _, BE.out⟩
              | true =>
                have FZ : Hid (ndE l nd (k + 1) = 0) := FR.out.trans (UE2.out.trans (chk_ok hg))
                rw [hg] at GO
                clear STY FR UE2 hg
                go_wp2_with fail
                with_reducible refine (GO.out _).mono ?_
                rintro e w9 ⟨rfl, b9⟩
                have B9 := hid (T4.out _ (B8.out.trans (b9.mono B8.out.size)))
                clear b9 GO
                go_wp2_with fail
                refine ⟨⟨k + 1, by omega, by go_num, FZ, B9⟩, ?_⟩
                simp [intOf]; omega
    · obtain rfl : n = k := by omega
      have e0 : nd.length = n := HN.out
      have EF : Hid (starvE l ls nd = 0) := by unfold Hid; rw [E.out, e0]; exact hE.out
      have LF : Hid (starvL l ls nd = stT (fun id => qfT l id l.length) (fun q => useT ls q ls.length) nd n) := by
        have := LY.out (by rw [e0]; exact hE.out)
        rw [e0] at this
        exact this
      have UZ_ := hid (NZ.out (by rw [e0]; exact hE.out))
      have VS := hid hB.out
      clear E LY LN HAS LEA2 NZ hE hB
      rename World => w5
      go_wp2_with fail
      go_loopw [12, 66] (fun s i wr => ∃ k : Nat, k ≤ n ∧ i = .int .i64 (k : Int) ∧ Hid (OwnN w5.heap.size wr s (stT (fun id => qfT l id l.length) (fun q => useT ls q ls.length) nd k).length (stT (fun id => qfT l id l.length) (fun q => useT ls q ls.length) nd k)) ∧ Hid (Below w5.heap.size w5 wr)) (fun s i _ => n - (intOf i).toNat)
      case atStart => exact ⟨0, by omega, rfl, OwnE.nil _ _ _ _ _, Below.refl _ _⟩
      case round =>
        obtain ⟨k, hk, rfl, hO, hB⟩ := hrel
        have VW := hid (B4.out.trans (VS.out.mono B4.out.size))
        by_cases hlt : k < n
        · have hlt' : k < nd.length := by rw [HN.out]; exact hlt
          obtain ⟨ub, uo, rfl, RU⟩ := HU.out.rowU (by omega)
          have BW := hid (VW.out.trans (hB.out.mono VW.out.size))
          obtain ⟨r0, r1, r2⟩ := RU k hlt
          have c0 := keepc BW.out r0
          have c1 := keepc BW.out r1
          have c2 := keepc BW.out r2
          have hz := UZ_.out k hlt'
          have SD := hid (STD.out _ hz)
          obtain ⟨z1, z2, z3, z4⟩ := useE_zero hz
          have hp : pl l (ua nd k).qu < l.length := of_decide_eq_true z1
          have hpl : pl l (ua nd k).qu < len := by rw [← HLl.out]; exact hp
          have FA := FAT.out _ hp
          have NS : Hid (stT (fun id => qfT l id l.length) (fun q => useT ls q ls.length) nd (k + 1) = if stB (fun id => qfT l id l.length) (fun q => useT ls q ls.length) (ua nd k).qu (ua nd k).uc (ua nd k).um = true then stT (fun id => qfT l id l.length) (fun q => useT ls q ls.length) nd k ++ [(ua nd k).qu] else stT (fun id => qfT l id l.length) (fun q => useT ls q ls.length) nd k) := rfl
          rw [SD.out] at NS
          have hsl := stT_len (f := fun id => qfT l id l.length) (g := fun q => useT ls q ls.length) (nd := nd) k
          have CS := hid (fun W (hW : Below w.heap.size w W) (hW4 : Below w4.heap.size w4 W) => rsum_any (some ⟨lb, lo, none⟩) len cap l sa0 sc (vecsTo l (useV ls) len) (ua nd k).qu W (HH.out.below hW) (HV.out.below hW4) hpl)
          rw [va_vecs hpl] at CS
          have CFI0 := hid (fun W (hW : Below w.heap.size w W) => find_any (some ⟨lb, lo, none⟩) len cap l (ua nd k).qu W (HH.out.below hW) hpl)
          have ka : (0 : Int) ≤ (k : Int) := by omega
          have kb : (k : Int) < (n : Int) := by omega
          clear r0 r1 r2 RU SD z1 z2 hz hp hpl
          generalize hx : ua nd k = x at *
          clear hx
          obtain ⟨u1, u2, u3⟩ := x
          simp only at c0 c1 c2 NS CS CFI0 FA z3 z4
          generalize qa l (pl l u1) = kq at *
          obtain ⟨k1, k2, k3, k4, k5, k6, k7⟩ := kq
          generalize vecAt l (useV ls) (pl l u1) = NN at *
          obtain ⟨N1, N2⟩ := NN
          simp only [qv] at *
          obtain ⟨⟨a1, a2⟩, a3, a4⟩ := okv_true FA
          unfold okp at z3 z4
          simp only at a1 a2 a3 a4
          have wk1 : IntKind.i64.wrap (N1 + u2) = N1 + u2 := by rw [IntKind.wrap_i64]; omega
          have wk2 : IntKind.i64.wrap (N2 + u3) = N2 + u3 := by rw [IntKind.wrap_i64]; omega
          have FI := hid (fun W => rfits_any (N1 + u2) (N2 + u3) k6 k7 W)
          generalize fitB (N1 + u2) (N2 + u3) k6 k7 = FB at *
          have BA := hid (hB.out.alloc hB.out.size (.cells #[.int .i64 u1, .int .i64 u2, .int .i64 u3] 44))
          have BAW := hid (VW.out.trans (BA.out.mono VW.out.size))
          have BA4 := hid (VS.out.trans (BA.out.mono VS.out.size))
          have OA := hid (hO.out.below ((Below.refl wr.heap.size wr).alloc (Nat.le_refl _) (.cells #[.int .i64 u1, .int .i64 u2, .int .i64 u3] 44)))
          have y0 : (wr.alloc (.cells #[.int .i64 u1, .int .i64 u2, .int .i64 u3] 44)).cell? ⟨wr.heap.size, 0, none⟩ = some (.int .i64 u1) := by simp [go_sem]
          have y1 : (wr.alloc (.cells #[.int .i64 u1, .int .i64 u2, .int .i64 u3] 44)).cell? ⟨wr.heap.size, 1, none⟩ = some (.int .i64 u2) := by simp [go_sem]
          have y2 : (wr.alloc (.cells #[.int .i64 u1, .int .i64 u2, .int .i64 u3] 44)).cell? ⟨wr.heap.size, 2, none⟩ = some (.int .i64 u3) := by simp [go_sem]
          go_wp2_with fail
          clear c0 c1 c2 hO FA a1 a2 a3 a4 z3 z4
          generalize (wr.alloc (.cells #[.int .i64 u1, .int .i64 u2, .int .i64 u3] 44)) = w6 at *
          generalize wr.heap.size = QK at *
          with_reducible refine (CS.out w6 BAW.out BA4.out).mono ?_
          rintro e w7 ⟨rfl, b7⟩
          have bb := b7.trans (((Below.refl w7.heap.size w7).alloc (Nat.le_refl _) (.cells #[.int .i64 N1, .int .i64 N2] 33)).mono b7.size)
          replace y0 := keepc bb y0
          replace y1 := keepc bb y1
          replace y2 := keepc bb y2
          have v0 : (w7.alloc (.cells #[.int .i64 N1, .int .i64 N2] 33)).cell? ⟨w7.heap.size, 0, none⟩ = some (.int .i64 N1) := by simp [go_sem]
          have v1_ : (w7.alloc (.cells #[.int .i64 N1, .int .i64 N2] 33)).cell? ⟨w7.heap.size, 1, none⟩ = some (.int .i64 N2) := by simp [go_sem]
          have B8 := hid (BA.out.trans (bb.mono BA.out.size))
          have B8W := hid (BAW.out.trans (bb.mono BAW.out.size))
          have O8 := hid (OA.out.below bb)
          clear b7 bb CS OA
          go_wp2_with fail
          generalize (w7.alloc (.cells #[.int .i64 N1, .int .i64 N2] 33)) = w8 at *
          generalize w7.heap.size = VK at *
          have CFI := hid (fun W (hW : Below w8.heap.size w8 W) => CFI0.out W (B8W.out.trans (hW.mono B8W.out.size)))
          have BX := hid (Below.drew (Below.refl w8.heap.size w8))
          clear CFI0
          have rg_y0 := drewc y0
          have rg_y1 := drewc y1
          have rg_y2 := drewc y2
          have rg_v0 := drewc v0
          have rg_v1_ := drewc v1_
          refine wp_region_held_drew (S := (fun w' => w'.cell? ⟨QK, 0, none⟩ = some (.int .i64 u1) ∧ w'.cell? ⟨QK, 1, none⟩ = some (.int .i64 u2) ∧ w'.cell? ⟨QK, 2, none⟩ = some (.int .i64 u3) ∧ w'.cell? ⟨VK, 0, none⟩ = some (.int .i64 N1) ∧ w'.cell? ⟨VK, 1, none⟩ = some (.int .i64 N2))) (by kernel_rfl) ⟨rg_y0, rg_y1, rg_y2, rg_v0, rg_v1_⟩ (fun hHeld => ?_)
          refine wpAnyH_take (i := 0) (v := .pointer (some ⟨VK, 0, none⟩)) rfl (by kernel_rfl) (by kernel_rfl) (by kernel_rfl) (fun _ _ _ h => h) (Or.inl ⟨by rfl, ?_⟩) (by assumption) ?_
          · (intro w hSw; (try dsimp only at hSw); go_simp)
          (try simp only [Act.put, List.getElem_toArray, List.getElem_cons_succ, List.getElem_cons_zero, List.setIfInBounds_toArray, List.set_cons_zero, List.set_cons_succ])
          refine wpAnyH_take (i := 1) (v := .int .i64 N1) rfl (by kernel_rfl) (by kernel_rfl) (by kernel_rfl) (fun _ _ _ h => h) (Or.inl ⟨by rfl, ?_⟩) (by assumption) ?_
          · (intro w hSw; (try dsimp only at hSw); go_simp)
          (try simp only [Act.put, List.getElem_toArray, List.getElem_cons_succ, List.getElem_cons_zero, List.setIfInBounds_toArray, List.set_cons_zero, List.set_cons_succ])
          refine wpAnyH_take (i := 2) (v := .pointer (some ⟨QK, 1, none⟩)) rfl (by kernel_rfl) (by kernel_rfl) (by kernel_rfl) (fun _ _ _ h => h) (Or.inl ⟨by rfl, ?_⟩) (by assumption) ?_
          · (intro w hSw; (try dsimp only at hSw); go_simp)
          (try simp only [Act.put, List.getElem_toArray, List.getElem_cons_succ, List.getElem_cons_zero, List.setIfInBounds_toArray, List.set_cons_zero, List.set_cons_succ])
          refine wpAnyH_take (i := 3) (v := .pointer (some ⟨QK, 1, none⟩)) rfl (by kernel_rfl) (by kernel_rfl) (by kernel_rfl) (fun _ _ _ h => h) (Or.inl ⟨by rfl, ?_⟩) (by assumption) ?_
          · (intro w hSw; (try dsimp only at hSw); go_simp)
          (try simp only [Act.put, List.getElem_toArray, List.getElem_cons_succ, List.getElem_cons_zero, List.setIfInBounds_toArray, List.set_cons_zero, List.set_cons_succ])
          refine wpAnyH_take (i := 4) (v := .int .i64 u2) rfl (by kernel_rfl) (by kernel_rfl) (by kernel_rfl) (fun _ _ _ h => h) (Or.inl ⟨by rfl, ?_⟩) (by assumption) ?_
          · (intro w hSw; (try dsimp only at hSw); go_simp)
          (try simp only [Act.put, List.getElem_toArray, List.getElem_cons_succ, List.getElem_cons_zero, List.setIfInBounds_toArray, List.set_cons_zero, List.set_cons_succ])
          refine wpAnyH_take (i := 5) (v := .int .i64 (N1 + u2)) rfl (by kernel_rfl) (by kernel_rfl) (by kernel_rfl) (fun _ _ _ h => h) (Or.inl ⟨by rfl, ?_⟩) (by assumption) ?_
          · (intro w hSw; (try dsimp only at hSw); go_simp)
          (try simp only [Act.put, List.getElem_toArray, List.getElem_cons_succ, List.getElem_cons_zero, List.setIfInBounds_toArray, List.set_cons_zero, List.set_cons_succ])
          refine wpAnyH_take (i := 6) (v := .pointer (some ⟨VK, 1, none⟩)) rfl (by kernel_rfl) (by kernel_rfl) (by kernel_rfl) (fun _ _ _ h => h) (Or.inl ⟨by rfl, ?_⟩) (by assumption) ?_
          · (intro w hSw; (try dsimp only at hSw); go_simp)
          (try simp only [Act.put, List.getElem_toArray, List.getElem_cons_succ, List.getElem_cons_zero, List.setIfInBounds_toArray, List.set_cons_zero, List.set_cons_succ])
          refine wpAnyH_take (i := 7) (v := .int .i64 N2) rfl (by kernel_rfl) (by kernel_rfl) (by kernel_rfl) (fun _ _ _ h => h) (Or.inl ⟨by rfl, ?_⟩) (by assumption) ?_
          · (intro w hSw; (try dsimp only at hSw); go_simp)
          (try simp only [Act.put, List.getElem_toArray, List.getElem_cons_succ, List.getElem_cons_zero, List.setIfInBounds_toArray, List.set_cons_zero, List.set_cons_succ])
          refine wpAnyH_take (i := 8) (v := .pointer (some ⟨QK, 1, none⟩)) rfl (by kernel_rfl) (by kernel_rfl) (by kernel_rfl) (fun _ _ _ h => h) (Or.inl ⟨by rfl, ?_⟩) (by assumption) ?_
          · (intro w hSw; (try dsimp only at hSw); go_simp)
          (try simp only [Act.put, List.getElem_toArray, List.getElem_cons_succ, List.getElem_cons_zero, List.setIfInBounds_toArray, List.set_cons_zero, List.set_cons_succ])
          refine wpAnyH_take (i := 9) (v := .pointer (some ⟨QK, 2, none⟩)) rfl (by kernel_rfl) (by kernel_rfl) (by kernel_rfl) (fun _ _ _ h => h) (Or.inl ⟨by rfl, ?_⟩) (by assumption) ?_
          · (intro w hSw; (try dsimp only at hSw); go_simp)
          (try simp only [Act.put, List.getElem_toArray, List.getElem_cons_succ, List.getElem_cons_zero, List.setIfInBounds_toArray, List.set_cons_zero, List.set_cons_succ])
          refine wpAnyH_take (i := 10) (v := .int .i64 u3) rfl (by kernel_rfl) (by kernel_rfl) (by kernel_rfl) (fun _ _ _ h => h) (Or.inl ⟨by rfl, ?_⟩) (by assumption) ?_
          · (intro w hSw; (try dsimp only at hSw); go_simp)
          (try simp only [Act.put, List.getElem_toArray, List.getElem_cons_succ, List.getElem_cons_zero, List.setIfInBounds_toArray, List.set_cons_zero, List.set_cons_succ])
          refine wpAnyH_take (i := 11) (v := .int .i64 (N2 + u3)) rfl (by kernel_rfl) (by kernel_rfl) (by kernel_rfl) (fun _ _ _ h => h) (Or.inl ⟨by rfl, ?_⟩) (by assumption) ?_
          · (intro w hSw; (try dsimp only at hSw); go_simp)
          (try simp only [Act.put, List.getElem_toArray, List.getElem_cons_succ, List.getElem_cons_zero, List.setIfInBounds_toArray, List.set_cons_zero, List.set_cons_succ])
          refine wpAnyH_take (i := 12) (v := .agg #[.int .i64 (N1 + u2), .int .i64 (N2 + u3)]) rfl (by kernel_rfl) (by kernel_rfl) (by kernel_rfl) (fun _ _ _ h => h) (Or.inl ⟨by rfl, ?_⟩) (by assumption) ?_
          · (intro w hSw; (try dsimp only at hSw); go_simp)
          (try simp only [Act.put, List.getElem_toArray, List.getElem_cons_succ, List.getElem_cons_zero, List.setIfInBounds_toArray, List.set_cons_zero, List.set_cons_succ])
          refine wpAnyH_take (i := 13) (v := .slice (some ⟨lb, lo, none⟩) len cap) rfl (by kernel_rfl) (by kernel_rfl) (by kernel_rfl) (fun _ _ _ h => h) (Or.inl ⟨by rfl, ?_⟩) (by assumption) ?_
          · (intro w hSw; (try dsimp only at hSw); go_simp)
          (try simp only [Act.put, List.getElem_toArray, List.getElem_cons_succ, List.getElem_cons_zero, List.setIfInBounds_toArray, List.set_cons_zero, List.set_cons_succ])
          refine wpAnyH_take (i := 14) (v := .pointer (some ⟨QK, 0, none⟩)) rfl (by kernel_rfl) (by kernel_rfl) (by kernel_rfl) (fun _ _ _ h => h) (Or.inl ⟨by rfl, ?_⟩) (by assumption) ?_
          · (intro w hSw; (try dsimp only at hSw); go_simp)
          (try simp only [Act.put, List.getElem_toArray, List.getElem_cons_succ, List.getElem_cons_zero, List.setIfInBounds_toArray, List.set_cons_zero, List.set_cons_succ])
          refine wpAnyH_take (i := 15) (v := .int .i64 u1) rfl (by kernel_rfl) (by kernel_rfl) (by kernel_rfl) (fun _ _ _ h => h) (Or.inl ⟨by rfl, ?_⟩) (by assumption) ?_
          · (intro w hSw; (try dsimp only at hSw); go_simp)
          (try simp only [Act.put, List.getElem_toArray, List.getElem_cons_succ, List.getElem_cons_zero, List.setIfInBounds_toArray, List.set_cons_zero, List.set_cons_succ])
          refine wpAnyH_ready (rs := [16]) (by kernel_rfl) (by simp) ?_
          refine AllReadyH.cons rfl (fun K hK => ?_) AllReadyH.nil
          go_simp
          with_reducible refine (CFI.out _ BX.out).mono ?_
          rintro e z1 ⟨rfl, b1⟩
          replace BX := hid (BX.out.trans (b1.mono BX.out.size))
          replace rg_y0 := keepc b1 rg_y0
          replace rg_y1 := keepc b1 rg_y1
          replace rg_y2 := keepc b1 rg_y2
          replace rg_v0 := keepc b1 rg_v0
          replace rg_v1_ := keepc b1 rg_v1_
          refine hK.out _ _ ⟨rg_y0, rg_y1, rg_y2, rg_v0, rg_v1_⟩ (fun hHeld => ?_)
          clear hK K
          (try simp only [Act.put, List.getElem_toArray, List.getElem_cons_succ, List.getElem_cons_zero, List.setIfInBounds_toArray, List.set_cons_zero, List.set_cons_succ])
          refine wpAnyH_take (i := 17) (v := .agg #[.int .i64 k6, .int .i64 k7]) rfl (by kernel_rfl) (by kernel_rfl) (by kernel_rfl) (fun _ _ _ h => h) (Or.inl ⟨by rfl, ?_⟩) (by assumption) ?_
          · (intro w hSw; have hpf := run_min; (try dsimp only at hSw); go_simp)
          (try simp only [Act.put, List.getElem_toArray, List.getElem_cons_succ, List.getElem_cons_zero, List.setIfInBounds_toArray, List.set_cons_zero, List.set_cons_succ])
          refine wpAnyH_ready (rs := [18]) (by kernel_rfl) (by simp) ?_
          refine AllReadyH.cons rfl (fun K hK => ?_) AllReadyH.nil
          go_simp
          with_reducible refine (FI.out _).mono ?_
          rintro e z2 ⟨rfl, b2⟩
          replace BX := hid (BX.out.trans (b2.mono BX.out.size))
          replace rg_y0 := keepc b2 rg_y0
          replace rg_y1 := keepc b2 rg_y1
          replace rg_y2 := keepc b2 rg_y2
          replace rg_v0 := keepc b2 rg_v0
          replace rg_v1_ := keepc b2 rg_v1_
          refine hK.out _ _ ⟨rg_y0, rg_y1, rg_y2, rg_v0, rg_v1_⟩ (fun hHeld => ?_)
          clear hK K
          (try simp only [Act.put, List.getElem_toArray, List.getElem_cons_succ, List.getElem_cons_zero, List.setIfInBounds_toArray, List.set_cons_zero, List.set_cons_succ])
          refine wpAnyH_done (by kernel_rfl) ?_ _
          clear hHeld rg_y0 rg_y1 rg_y2 rg_v0 rg_v1_
          replace y0 := keepc b2 (keepc b1 (drewc y0))
          have B9 := hid (B8.out.trans (BX.out.mono B8.out.size))
          have O9 := hid (O8.out.below BX.out)
          clear b1 b2 y1 y2 v0 v1_ CFI FI O8
          cases FB with
          | false =>
            have NS2 : Hid (stT (fun id => qfT l id l.length) (fun q => useT ls q ls.length) nd (k + 1) = stT (fun id => qfT l id l.length) (fun q => useT ls q ls.length) nd k) := by unfold Hid; rw [NS.out]; simp
            clear NS
            generalize stT (fun id => qfT l id l.length) (fun q => useT ls q ls.length) nd k = ST at *
            go_wp2_with fail
            refine ⟨⟨k + 1, by omega, by go_num, by unfold Hid; rw [NS2.out]; exact O9.out, B9⟩, ?_⟩
            simp [intOf]; omega
          | true =>
            have NS2 : Hid (stT (fun id => qfT l id l.length) (fun q => useT ls q ls.length) nd (k + 1) = stT (fun id => qfT l id l.length) (fun q => useT ls q ls.length) nd k ++ [u1]) := by unfold Hid; rw [NS.out]; simp
            clear NS
            generalize stT (fun id => qfT l id l.length) (fun q => useT ls q ls.length) nd k = ST at *
            generalize hsn : ST.length = sn at *
            have HSN := hid hsn
            clear hsn
            go_wp2_with (at_builtin; refine push_ownE 26 3 _ 8 encN_len encN_one Tryz.underlying26 infoN rfl (by decide) z2 u1 rfl (.tmp 94) (.tmp 97) rfl w5.heap.size sn u12 _ _ rfl rfl O9.out B9.out.size (by simp [Act.eval]) (by omega) (by omega) ?_)
            intro v9 w9 h1 h2 _
            have O10 := hid h1
            have B10 := hid (B9.out.trans h2)
            clear h1 h2
            go_wp2_with fail
            refine ⟨⟨k + 1, by omega, by go_num, by unfold Hid; rw [NS2.out, List.length_append, HSN.out]; exact O10.out, B10⟩, ?_⟩
            simp [intOf]; omega
        · obtain rfl : n = k := by omega
          have BE := hid (VW.out.trans (hB.out.mono VW.out.size))
          generalize stT (fun id => qfT l id l.length) (fun q => useT ls q ls.length) nd n = ST at *
          go_wp2_with fail
          go_ret2
          exact ⟨_, ret_u EF.out, by rw [LF.out]; exact hO.out.weaken VW.out.size, BE.out⟩
end Go.Proofs.YtdbkjcnanffibaaGreat
