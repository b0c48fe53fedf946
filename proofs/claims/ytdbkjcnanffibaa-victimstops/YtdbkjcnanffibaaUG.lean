/-
  Contracts of victim: read, the whole.
-/
import Derived.Test.YtdbkjcnanffibaaUF
namespace Go.Proofs.Ytdbkjcnanffibaa
open Go.RowKit Go.Deep Go.Maps Go.Shelf
set_option linter.unusedVariables false
set_option linter.unusedSimpArgs false

/-- The error of queues with leases. -/
def readE (l : List Qu) (ls : List Le) : Int := if chkE l = 0 then (if useErr ls = 0 then sumsE l (useV ls) else useErr ls) else chkE l
/-- What 'read' answers. -/
def AnsH (lo : Nat) (w : World) (v : Value) (er : Int) (l : List Qu) (ls : List Le) : Prop :=
  (er ≠ 0 ∧ v = .agg #[.map none, .map none]) ∨ (er = 0 ∧ ∃ mq mu, v = .agg #[.map (some mq), .map (some mu)] ∧ lo ≤ mq ∧ lo ≤ mu ∧ QMp w mq l.length (fun id => qfT l id l.length) ∧ UM w mu ls.length (fun q => hasT ls q ls.length) (fun q => useT ls q ls.length))
theorem ret_h {v : Value} {a b : Int} (h : a = b) : Ending.returned (.tuple #[v, .int .i64 b]) = .returned (.tuple #[v, .int .i64 a]) := by rw [h]

set_option maxRecDepth 100000 in
set_option maxHeartbeats 4000000 in
theorem uread_any (a : Option Addr) (len cap : Nat) (l : List Qu) (b : Option Addr) (ln cp : Nat) (ls : List Le) (w : World) (h : HoldsQ w a len cap l) (hok : ∀ q ∈ l, q.ok) (hl : HoldsL w b ln cp ls) (hlo : ∀ x ∈ ls, x.okB) (hn : ln * 24 ≤ 140737488355328) :
    Calls Try.prog 25 #[.slice a len cap, .slice b ln cp] w fun e w' => ∃ v, e = .returned (.tuple #[v, .int .i64 (readE l ls)]) ∧ AnsH w.heap.size w' v (readE l ls) l ls ∧ Below w.heap.size w w' := by
  have HH := hid h
  have HL := hid h.1
  have HO := hid hok
  have HS := hid hl
  have HSL := hid hl.1.1
  have HSO := hid hlo
  have B0 := hid ((Below.refl w.heap.size w).alloc (Nat.le_refl _) (.cells #[.map none, .map none] 64))
  have CK := hid (fun W (hW : Below w.heap.size w W) => check_q a len cap l W (h.below hW) hok)
  have AD := hid (fun W (hW : Below w.heap.size w W) => uadd_any b ln cp ls W (hl.below hW) hlo)
  clear h hok hl hlo
  have c0 : (w.alloc (.cells #[.map none, .map none] 64)).cell? ⟨w.heap.size, 0, none⟩ = some (.map none) := by simp [go_sem]
  have c1 : (w.alloc (.cells #[.map none, .map none] 64)).cell? ⟨w.heap.size, 1, none⟩ = some (.map none) := by simp [go_sem]
  have f0 : (w.alloc (.cells #[.map none, .map none] 64)).frozen? ⟨w.heap.size, 0, none⟩ = false := by simp [go_sem]
  have f1 : (w.alloc (.cells #[.map none, .map none] 64)).frozen? ⟨w.heap.size, 1, none⟩ = false := by simp [go_sem]
  by_cases e1 : chkE l = 0
  case neg =>
    have ER : Hid (readE l ls = chkE l) := by unfold Hid readE; rw [if_neg e1]
    have t : (chkE l != 0) = true := by simpa using e1
    have E1 := hid e1
    clear e1
    generalize chkE l = CE at *
    go_enter Try.func25, Try.ntmps25
    go_wp2_with fail
    refine (CK.out _ B0.out).mono ?_
    rintro e w1 ⟨rfl, b1⟩
    have B1 := hid (B0.out.trans (b1.mono B0.out.size))
    replace f0 := keepf b1 c0 f0
    replace f1 := keepf b1 c1 f1
    replace c0 := keepc b1 c0
    replace c1 := keepc b1 c1
    go_wp2_with fail
    exact bodyPost_ret (v := .tuple #[.agg #[.map none, .map none], .int .i64 CE]) (by simp [results, Try.results25, go_sem, c0, c1]) rfl ⟨_, ret_h ER.out, .inl ⟨by rw [ER.out]; exact E1.out, rfl⟩, (B1.out.setCell (by simp) _).setCell (by simp) _⟩
  have t : (chkE l != 0) = false := by simpa using e1
  by_cases e2 : useErr ls = 0
  case neg =>
    have ER : Hid (readE l ls = useErr ls) := by unfold Hid readE; rw [if_pos e1, if_neg e2]
    have t2 : (useErr ls != 0) = true := by simpa using e2
    have E2 := hid e2
    rw [e1] at CK
    clear e1 e2 t
    generalize useErr ls = UE at *
    go_enter Try.func25, Try.ntmps25
    go_wp2_with fail
    refine (CK.out _ B0.out).mono ?_
    rintro e w1 ⟨rfl, b1⟩
    have B1 := hid (B0.out.trans (b1.mono B0.out.size))
    replace f0 := keepf b1 c0 f0
    replace f1 := keepf b1 c1 f1
    replace c0 := keepc b1 c0
    replace c1 := keepc b1 c1
    go_wp2_with fail
    refine (AD.out _ B1.out).mono ?_
    rintro e w2 ⟨v2, rfl, o2, b2⟩
    have B2 := hid (B1.out.trans (b2.mono B1.out.size))
    replace f0 := keepf b2 c0 f0
    replace f1 := keepf b2 c1 f1
    replace c0 := keepc b2 c0
    replace c1 := keepc b2 c1
    clear o2
    go_wp2_with fail
    exact bodyPost_ret (v := .tuple #[.agg #[.map none, .map none], .int .i64 UE]) (by simp [results, Try.results25, go_sem, c0, c1]) rfl ⟨_, ret_h ER.out, .inl ⟨by rw [ER.out]; exact E2.out, rfl⟩, (B2.out.setCell (by simp) _).setCell (by simp) _⟩
  have SU := hid (fun ub n uc W (hW : Below w.heap.size w W) (hu : HoldsU W ub n uc (useV ls)) => qsums_any a len cap l ub n uc (useV ls) W (HH.out.below hW) HO.out hu (useV_q HSO.out))
  have ER : Hid (readE l ls = sumsE l (useV ls)) := by unfold Hid readE; rw [if_pos e1, if_pos e2]
  rw [e1] at CK
  rw [e2] at AD
  clear t
  go_enter Try.func25, Try.ntmps25
  go_wp2_with fail
  refine (CK.out _ B0.out).mono ?_
  rintro e w1 ⟨rfl, b1⟩
  have B1 := hid (B0.out.trans (b1.mono B0.out.size))
  replace f0 := keepf b1 c0 f0
  replace f1 := keepf b1 c1 f1
  replace c0 := keepc b1 c0
  replace c1 := keepc b1 c1
  have HB1 : Hid (w.heap.size < w1.heap.size) := World.block_lt_of_cell? _ _ c0
  go_wp2_with fail
  refine (AD.out _ B1.out).mono ?_
  rintro e w2 ⟨v2, rfl, o2, b2⟩
  have B2 := hid (B1.out.trans (b2.mono B1.out.size))
  replace f0 := keepf b2 c0 f0
  replace f1 := keepf b2 c1 f1
  replace c0 := keepc b2 c0
  replace c1 := keepc b2 c1
  have o3 : ∃ b, v2 = .map (some b) ∧ w1.heap.size ≤ b ∧ UM w2 b ls.length (fun q => hasT ls q ls.length) (fun q => useT ls q ls.length) := by
    rcases o2 with ⟨h, _⟩ | ⟨_, h⟩
    · exact absurd rfl h
    · exact h
  obtain ⟨mu, rfl, hlo, hU⟩ := o3
  have HU := hid hU
  have HMU : Hid (w.heap.size < mu) := Nat.lt_of_lt_of_le HB1.out hlo
  have LI := hid (ulist_any w2 hU (by rw [HSL.out]; exact hn))
  clear o2 hU hlo b1 b2 AD CK
  go_wp2_with fail
  refine LI.out.mono ?_
  rintro e w3 ⟨v3, ids, rfl, hR, hle, hO, b3⟩
  have B3 := hid (B2.out.trans (b3.mono B2.out.size))
  have HU3 := hid (HU.out.below b3)
  replace f0 := keepf b3 c0 f0
  replace f1 := keepf b3 c1 f1
  replace c0 := keepc b3 c0
  replace c1 := keepc b3 c1
  have AN : AnsS w2.heap.size w3 v3 0 ls := .inr ⟨rfl, ids, hR, hle, hO⟩
  have O3 := (AN.is HSO.out rfl).1
  clear hR hle hO AN LI b3 HU
  obtain ⟨ua, uc, rfl⟩ := O3.form
  have S3 := hid (SU.out _ _ _ _ B3.out (O3.holds Us.cs_len))
  clear O3 SU
  by_cases e3 : sumsE l (useV ls) = 0
  case neg =>
    have t3 : (sumsE l (useV ls) != 0) = true := by simpa using e3
    have E3 := hid e3
    clear e3
    generalize sumsE l (useV ls) = SE at *
    go_wp2_with fail
    refine S3.out.mono ?_
    rintro e w4 ⟨v4, rfl, o4, b4⟩
    have B4 := hid (B3.out.trans (b4.mono B3.out.size))
    replace f0 := keepf b4 c0 f0
    replace f1 := keepf b4 c1 f1
    replace c0 := keepc b4 c0
    replace c1 := keepc b4 c1
    clear o4
    go_wp2_with fail
    exact bodyPost_ret (v := .tuple #[.agg #[.map none, .map none], .int .i64 SE]) (by simp [results, Try.results25, go_sem, c0, c1]) rfl ⟨_, ret_h ER.out, .inl ⟨by rw [ER.out]; exact E3.out, rfl⟩, (B4.out.setCell (by simp) _).setCell (by simp) _⟩
  rw [e3] at S3 ER
  have hmm := @run_makeMap Try.prog
  go_wp2_with fail
  refine S3.out.mono ?_
  rintro e w4 ⟨v4, rfl, o4, b4⟩
  have B4 := hid (B3.out.trans (b4.mono B3.out.size))
  have HU4 := hid (HU3.out.below b4)
  replace f0 := keepf b4 c0 f0
  replace f1 := keepf b4 c1 f1
  replace c0 := keepc b4 c0
  replace c1 := keepc b4 c1
  clear o4 S3 HU3 b4
  have BM := hid ((Below.refl w4.heap.size w4).alloc (Nat.le_refl _) (.map #[] 0))
  have Q0 : Hid (QMp ((w4.alloc (.map #[] 0)).alloc (.cells #[.map (some w4.heap.size), .map (some mu)] 64)) w4.heap.size 0 (fun id => qfT l id 0)) := (qmp_made w4).same (Below.heap_alloc _ _ _ (by simp))
  have BN := hid (BM.out.alloc BM.out.size (.cells #[.map (some w4.heap.size), .map (some mu)] 64))
  have z0 : ((w4.alloc (.map #[] 0)).alloc (.cells #[.map (some w4.heap.size), .map (some mu)] 64)).cell? ⟨w4.heap.size + 1, 0, none⟩ = some (.map (some w4.heap.size)) := by simp [go_sem]
  have z1 : ((w4.alloc (.map #[] 0)).alloc (.cells #[.map (some w4.heap.size), .map (some mu)] 64)).cell? ⟨w4.heap.size + 1, 1, none⟩ = some (.map (some mu)) := by simp [go_sem]
  have ZZ := hid (And.intro z0 z1)
  clear z0 z1 BM
  go_wp2_with fail
  obtain ⟨M, hM⟩ : ∃ M, M = w4.heap.size := ⟨_, rfl⟩
  go_loopw [45] (fun i wr => ∃ k : Nat, k ≤ len ∧ i = .int .i64 (k : Int) ∧ Hid (QMp wr w4.heap.size k (fun id => qfT l id k)) ∧ Hid (wr.cell? ⟨w4.heap.size + 1, 0, none⟩ = some (.map (some w4.heap.size)) ∧ wr.cell? ⟨w4.heap.size + 1, 1, none⟩ = some (.map (some mu))) ∧ Hid (Below w4.heap.size w4 wr)) (fun i _ => len - (intOf i).toNat)
  case atStart => exact ⟨0, by omega, rfl, Q0, ZZ, BN⟩
  case round =>
    obtain ⟨k, hk, rfl, hQ, hZ, hB⟩ := hrel
    clear Q0 ZZ BN
    by_cases hlt : k < len
    · obtain ⟨qb, qo, rfl, RW⟩ := HH.out.row (by omega)
      obtain ⟨d0, d1, d2, d3, d4, d5, d6⟩ := (((RW.below B4.out)).below hB.out).2 k (by rw [HL.out]; exact hlt)
      have hq := (qa_ok HO.out k).1
      have NF : Hid ((fun id => qfT l id (k + 1)) = fun id => if (qa l k).id = id then some (qa l k) else qfT l id k) := rfl
      have y0 := hZ.out.1
      have y1 := hZ.out.2
      have hlt2 : w4.heap.size + 1 < wr.heap.size := World.block_lt_of_cell? _ _ y0
      have hcap := HH.out.2.1
      have hcm := HH.out.2.2.1
      have ka : (0 : Int) ≤ (k : Int) := by omega
      have kb : (k : Int) < (len : Int) := by omega
      generalize hqa : qa l k = q at *
      have HQA := hid hqa
      clear hqa
      have PT : ∃ w', Sem.run Try.prog (Instr.mapUpdate 62 (.map (some w4.heap.size)) (.int .i64 q.id) (.agg #[.int .i64 q.id, .int .i64 q.par, .int .i64 q.wt, .int .i64 q.qc, .int .i64 q.qm, .int .i64 q.mc, .int .i64 q.mm])) (wr.alloc (.cells #[.int .i64 q.id, .int .i64 q.par, .int .i64 q.wt, .int .i64 q.qc, .int .i64 q.qm, .int .i64 q.mc, .int .i64 q.mm] 53)) = .ok () w' ∧ QMp w' w4.heap.size (k + 1) (fun y => if q.id = y then some q else qfT l y k) ∧ (wr.alloc (.cells #[.int .i64 q.id, .int .i64 q.par, .int .i64 q.wt, .int .i64 q.qc, .int .i64 q.qm, .int .i64 q.mc, .int .i64 q.mm] 53)).grownBy w' (some w4.heap.size) :=
        ((hQ.out.same (Below.heap_alloc _ _ _ hQ.out.lt)) : QMp (wr.alloc (.cells #[.int .i64 q.id, .int .i64 q.par, .int .i64 q.wt, .int .i64 q.qc, .int .i64 q.qm, .int .i64 q.mc, .int .i64 q.mm] 53)) w4.heap.size k (fun id => qfT l id k)).put hq (by unfold maxLen; omega)
      obtain ⟨w5, hrun5, hQ5, hg5⟩ := PT
      have HQ5 := hid hQ5
      have HG5 := hid hg5
      clear hQ5 hg5 RW hZ
      obtain ⟨q1, q2, q3, q4, q5, q6, q7⟩ := q
      simp only at d0 d1 d2 d3 d4 d5 d6 hrun5 HG5 HQ5 NF HQA
      have x0 := keepc ((Below.refl wr.heap.size wr).alloc (Nat.le_refl _) (.cells #[.int .i64 q1, .int .i64 q2, .int .i64 q3, .int .i64 q4, .int .i64 q5, .int .i64 q6, .int .i64 q7] 53)) y0
      have x1 := keepc ((Below.refl wr.heap.size wr).alloc (Nat.le_refl _) (.cells #[.int .i64 q1, .int .i64 q2, .int .i64 q3, .int .i64 q4, .int .i64 q5, .int .i64 q6, .int .i64 q7] 53)) y1
      go_wp2_with fail
      have HB5 := HG5.out.block (w4.heap.size + 1) (by simp; omega) (by simp)
      have Z5 : Hid (w5.cell? ⟨w4.heap.size + 1, 0, none⟩ = some (.map (some w4.heap.size)) ∧ w5.cell? ⟨w4.heap.size + 1, 1, none⟩ = some (.map (some mu))) := ⟨(World.cell?_of_block HB5).trans x0, (World.cell?_of_block HB5).trans x1⟩
      have HQ6 : Hid (QMp w5 w4.heap.size (k + 1) (fun id => qfT l id (k + 1))) := by unfold Hid; rw [NF.out]; exact HQ5.out
      refine ⟨⟨k + 1, by omega, by go_num, HQ6, Z5, (hB.out.alloc hB.out.size _).grown HG5.out (hB.out.alloc hB.out.size _).size (fun i e => by cases e; exact Nat.le_refl _)⟩, ?_⟩
      simp [intOf]; omega
    · obtain rfl : k = len := by omega
      have r0 := keepc hB.out c0
      have r1 := keepc hB.out c1
      have g0 := keepf hB.out c0 f0
      have g1 := keepf hB.out c1 f1
      have y0 := hZ.out.1
      have y1 := hZ.out.2
      have hBW := hid (B4.out.trans (hB.out.mono B4.out.size))
      have HUE := hid (HU4.out.below hB.out)
      have HW4 : Hid (w.heap.size < w4.heap.size) := World.block_lt_of_cell? _ _ c0
      clear c0 c1 f0 f1 hZ
      have hw4 : w.heap.size < w4.heap.size := HW4.out
      go_wp2_with fail
      exact bodyPost_ret (v := .tuple #[.agg #[.map (some w4.heap.size), .map (some mu)], .int .i64 0]) (by simp [results, Try.results25, go_sem, r0, r1]) rfl ⟨_, ret_h ER.out, .inr ⟨ER.out, w4.heap.size, mu, rfl, B4.out.size, Nat.le_of_lt HMU.out, by
        rw [HL.out]
        exact (hQ.out.same ((heap_setCell_other _ _ _ _ (by show w4.heap.size ≠ w.heap.size; omega)).trans (heap_setCell_other _ _ _ _ (by show w4.heap.size ≠ w.heap.size; omega)))), HUE.out.same ((heap_setCell_other _ _ _ _ (by have := HMU.out; show mu ≠ w.heap.size; omega)).trans (heap_setCell_other _ _ _ _ (by have := HMU.out; show mu ≠ w.heap.size; omega)))⟩, (hBW.out.setCell (by simp) _).setCell (by simp) _⟩
end Go.Proofs.Ytdbkjcnanffibaa
