/-
  The document's answers of place: Total, Find.
-/
import Derived.Test.YtikalkigmnipiaaPP
namespace Go.Proofs.Ytikalkigmnipiaa
open Go.RowKit Go.Deep Go.Maps Go.Shelf
set_option linter.unusedVariables false
set_option linter.unusedSimpArgs false

theorem totM_le : ∀ {ns : List Nd}, (∀ n ∈ ns, n.me ≤ 1099511627776) → totM ns ≤ 1099511627776 * ns.length := by
  intro ns
  induction ns with
  | nil => intro _; simp [totM]
  | cons n r ih =>
    intro h
    have h1 := ih (fun x hx => h x (by simp [hx]))
    have h2 := h n (by simp)
    simp only [totM, List.length_cons]
    omega
theorem tot_wide {ns : List Nd} (hn : ndsB (-1) ns = true) (h64 : ns.length ≤ 64) (k : Nat) : 0 ≤ totC (ns.take k) ∧ totC (ns.take k) ≤ 4096 ∧ 0 ≤ totM (ns.take k) ∧ totM (ns.take k) ≤ 70368744177664 := by
  have h1 := tot_part hn h64 (k := k)
  have h2 := totM_le (ns := ns.take k) (fun n h => by
    obtain ⟨j, hj, rfl⟩ := List.getElem_of_mem (List.mem_of_mem_take h)
    have := (ndsB_iff.1 hn).1 j hj
    rw [da_eq hj] at this
    have h3 := this.1.2.2
    unfold okp at h3
    omega)
  have h4 : (ns.take k).length ≤ 64 := by rw [List.length_take]; omega
  omega

set_option maxRecDepth 100000 in
set_option maxHeartbeats 8000000 in
theorem rptotal_any (a : Option Addr) (len cap : Nat) (ns : List Nd) (w : World) (h : HoldsD w a len cap ns) :
    Calls Try.prog 24 #[.slice a len cap] w fun e w' => e = .returned (.tuple #[.agg #[.int .i64 (totV ns).1, .int .i64 (totV ns).2], .int .i64 (totE ns)]) ∧ Below w.heap.size w w' := by
  have B0 : Hid (Below w.heap.size w (w.alloc (.cells #[.int .i64 0, .int .i64 0] 25))) := (Below.refl _ w).alloc (Nat.le_refl _) _
  have CK := hid (rplcheck_any a len cap ns none 0 0 [] _ (h.below B0.out) (holdsL_nil (w.alloc (.cells #[.int .i64 0, .int .i64 0] 25))))
  rw [List.map_nil] at CK
  have HH := hid h
  have HL := hid h.1
  have hcap := h.2.1
  have hcm := h.2.2.1
  clear h
  by_cases hE : plE ns [] = 0
  case neg =>
    have t : (plE ns [] == 0) = false := by simpa using hE
    have E1 : Hid (totE ns = plE ns []) := by unfold Hid totE; rw [if_neg hE]
    have E2 : Hid (totV ns = (0, 0)) := by unfold Hid totV; rw [E1.out, if_neg hE]
    clear hE
    generalize plE ns [] = PE at *
    go_enter Try.func24, Try.ntmps24
    go_wp2_with fail
    refine CK.out.mono ?_
    rintro e w1 ⟨rfl, b1⟩
    have f0 := keepf b1 (a := ⟨w.heap.size, 0, none⟩) (v := .int .i64 0) (by simp [go_sem]) (by simp [go_sem])
    have c0 := keepc b1 (a := ⟨w.heap.size, 0, none⟩) (v := .int .i64 0) (by simp [go_sem])
    have f1 := keepf b1 (a := ⟨w.heap.size, 1, none⟩) (v := .int .i64 0) (by simp [go_sem]) (by simp [go_sem])
    have c1 := keepc b1 (a := ⟨w.heap.size, 1, none⟩) (v := .int .i64 0) (by simp [go_sem])
    have B1 : Hid (Below w.heap.size w w1) := B0.out.trans (b1.mono B0.out.size)
    have ZA : Hid (Below w1.heap.size w1 (w1.alloc (.cells #[.int .i64 0, .int .i64 0] 25))) := (Below.refl _ w1).alloc (Nat.le_refl _) _
    have Z0 : (w1.alloc (.cells #[.int .i64 0, .int .i64 0] 25)).cell? ⟨w1.heap.size, 0, none⟩ = some (.int .i64 0) := by simp [go_sem]
    have Z1 : (w1.alloc (.cells #[.int .i64 0, .int .i64 0] 25)).cell? ⟨w1.heap.size, 1, none⟩ = some (.int .i64 0) := by simp [go_sem]
    have CC := hid (And.intro (keepc ZA.out c0) (And.intro (keepc ZA.out c1) (And.intro (keepf ZA.out c0 f0) (And.intro (keepf ZA.out c1 f1) (And.intro Z0 Z1)))))
    have BZ := hid (B1.out.trans (ZA.out.mono B1.out.size))
    clear b1 c0 c1 f0 f1 Z0 Z1
    go_wp2_with fail
    generalize (w1.alloc (.cells #[.int .i64 0, .int .i64 0] 25)) = wz at *
    go_loopw [13] (fun i wr => ∃ k : Nat, k ≤ len ∧ i = .int .i64 (k : Int) ∧ Hid (Below wz.heap.size wz wr)) (fun i _ => len - (intOf i).toNat)
    case atStart => exact ⟨0, by omega, rfl, Below.refl _ _⟩
    case round =>
      obtain ⟨k, hk, rfl, hB⟩ := hrel
      have KB := hid (BZ.out.trans (hB.out.mono BZ.out.size))
      by_cases hlt : k < len
      · -- a node
        obtain ⟨db, dof, rfl, R⟩ := HH.out.rowD (by omega)
        obtain ⟨d1, d2, d3, d4, d5⟩ := R k hlt
        have c1 := keepc KB.out d1
        have c2 := keepc KB.out d2
        have c3 := keepc KB.out d3
        have c4 := keepc KB.out d4
        have c5 := keepc KB.out d5
        have ka : (0 : Int) ≤ (k : Int) := by omega
        have kb : (k : Int) < (len : Int) := by omega
        have hk' : k < ns.length := by rw [HL.out]; exact hlt
        clear d1 d2 d3 d4 d5 R
        generalize da ns k = nd at *
        obtain ⟨n1, n2, n3, n4, n5⟩ := nd
        simp only at *
        have BA : Hid (Below wz.heap.size wz (wr.alloc (.cells #[.int .i64 n1, .int .i64 n2, .int .i64 n3, .int .i64 n4, .int .i64 n5] 41))) := hB.out.alloc hB.out.size _
        go_wp2
        go_roundw
        case rel => exact ⟨k + 1, by omega, by go_num, BA⟩
        case measure => simp [intOf]; omega
      · have p0 := keepc hB.out CC.out.1
        have p1 := keepc hB.out CC.out.2.1
        have p2 := keepf hB.out CC.out.1 CC.out.2.2.1
        have p3 := keepf hB.out CC.out.2.1 CC.out.2.2.2.1
        have p4 := keepc hB.out CC.out.2.2.2.2.1
        have p5 := keepc hB.out CC.out.2.2.2.2.2
        go_wp2
        rw [E1.out, E2.out]
        exact bodyPost_ret (v := .tuple #[.agg #[.int .i64 0, .int .i64 0], .int .i64 PE]) (by simp [results, Try.results24, go_sem, p0, p1]) rfl ⟨rfl, (KB.out.setCell (by simp <;> omega) _).setCell (by simp <;> omega) _⟩
  obtain ⟨h64, hn, _⟩ := plE_zero hE
  have TW := hid (fun k => tot_wide hn h64 k)
  have HN := hid hn
  rw [hE] at CK
  have EC : Hid (totE ns = if okp (totC ns) ∧ okp (totM ns) then 0 else 2) := by unfold Hid totE; rw [if_pos hE]
  clear hE hn h64
  go_enter Try.func24, Try.ntmps24
  go_wp2_with fail
  refine CK.out.mono ?_
  rintro e w1 ⟨rfl, b1⟩
  have f0 := keepf b1 (a := ⟨w.heap.size, 0, none⟩) (v := .int .i64 0) (by simp [go_sem]) (by simp [go_sem])
  have c0 := keepc b1 (a := ⟨w.heap.size, 0, none⟩) (v := .int .i64 0) (by simp [go_sem])
  have f1 := keepf b1 (a := ⟨w.heap.size, 1, none⟩) (v := .int .i64 0) (by simp [go_sem]) (by simp [go_sem])
  have c1 := keepc b1 (a := ⟨w.heap.size, 1, none⟩) (v := .int .i64 0) (by simp [go_sem])
  have B1 : Hid (Below w.heap.size w w1) := B0.out.trans (b1.mono B0.out.size)
  have W1s : w.heap.size + 1 ≤ w1.heap.size := by have := b1.size; simpa using this
  have ZA : Hid (Below w1.heap.size w1 (w1.alloc (.cells #[.int .i64 0, .int .i64 0] 25))) := (Below.refl _ w1).alloc (Nat.le_refl _) _
  have Z0 : Hid ((w1.alloc (.cells #[.int .i64 0, .int .i64 0] 25)).cell? ⟨w1.heap.size, 0, none⟩ = some (.int .i64 0)) := by unfold Hid; simp [go_sem]
  have Z1 : Hid ((w1.alloc (.cells #[.int .i64 0, .int .i64 0] 25)).cell? ⟨w1.heap.size, 1, none⟩ = some (.int .i64 0)) := by unfold Hid; simp [go_sem]
  have Z2 : Hid ((w1.alloc (.cells #[.int .i64 0, .int .i64 0] 25)).frozen? ⟨w1.heap.size, 0, none⟩ = false) := by unfold Hid; simp [go_sem]
  have Z3 : Hid ((w1.alloc (.cells #[.int .i64 0, .int .i64 0] 25)).frozen? ⟨w1.heap.size, 1, none⟩ = false) := by unfold Hid; simp [go_sem]
  have C0 := hid (And.intro (keepc ZA.out c0) (And.intro (keepc ZA.out c1) (And.intro (keepf ZA.out c0 f0) (keepf ZA.out c1 f1))))
  have HZS : Hid ((w1.alloc (.cells #[.int .i64 0, .int .i64 0] 25)).heap.size = w1.heap.size + 1) := by unfold Hid; simp
  clear b1 c0 c1 f0 f1 CK
  go_wp2_with fail
  generalize (w1.alloc (.cells #[.int .i64 0, .int .i64 0] 25)) = wz at *
  go_loopw [13] (fun i wr => ∃ k : Nat, k ≤ len ∧ i = .int .i64 (k : Int) ∧ Hid (wr.cell? ⟨w1.heap.size, 0, none⟩ = some (.int .i64 (totC (ns.take k))) ∧ wr.cell? ⟨w1.heap.size, 1, none⟩ = some (.int .i64 (totM (ns.take k))) ∧ wr.frozen? ⟨w1.heap.size, 0, none⟩ = false ∧ wr.frozen? ⟨w1.heap.size, 1, none⟩ = false) ∧ Hid (But w1.heap.size wz wr)) (fun i _ => len - (intOf i).toNat)
  case atStart => exact ⟨0, by omega, rfl, ⟨Z0.out, Z1.out, Z2.out, Z3.out⟩, But.refl _ _⟩
  case round =>
    obtain ⟨k, hk, rfl, hC, hB⟩ := hrel
    have hws : wz.heap.size ≤ wr.heap.size := hB.out.size
    have hzs := HZS.out
    have KB : Hid (Below w.heap.size w wr) := B1.out.trans ((ZA.out.trans hB.out.bel).mono B1.out.size)
    by_cases hlt : k < len
    · -- a node
      obtain ⟨db, dof, rfl, R⟩ := HH.out.rowD (by omega)
      obtain ⟨d1, d2, d3, d4, d5⟩ := R k hlt
      have c1 := keepc KB.out d1
      have c2 := keepc KB.out d2
      have c3 := keepc KB.out d3
      have c4 := keepc KB.out d4
      have c5 := keepc KB.out d5
      have ka : (0 : Int) ≤ (k : Int) := by omega
      have kb : (k : Int) < (len : Int) := by omega
      have hk' : k < ns.length := by rw [HL.out]; exact hlt
      clear d1 d2 d3 d4 d5 R
      have TCt := hid (totC_take hk')
      have TMt := hid (totM_take hk')
      have P1 := TW.out k
      have P2 := TW.out (k + 1)
      rw [TCt.out, TMt.out] at P2
      obtain ⟨nd, hd⟩ : ∃ x, da ns k = x := ⟨_, rfl⟩
      rw [hd] at c1 c2 c3 c4 c5 TCt TMt P2
      clear hd
      obtain ⟨n1, n2, n3, n4, n5⟩ := nd
      simp only at *
      have BA : Hid (Below wr.heap.size wr (wr.alloc (.cells #[.int .i64 n1, .int .i64 n2, .int .i64 n3, .int .i64 n4, .int .i64 n5] 41))) := (Below.refl _ wr).alloc (Nat.le_refl _) _
      have s0 := keepc BA.out hC.out.1
      have s1 := keepc BA.out hC.out.2.1
      have s2 := keepf BA.out hC.out.1 hC.out.2.2.1
      have s3 := keepf BA.out hC.out.2.1 hC.out.2.2.2
      have y1 : (wr.alloc (.cells #[.int .i64 n1, .int .i64 n2, .int .i64 n3, .int .i64 n4, .int .i64 n5] 41)).cell? ⟨wr.heap.size, 1, none⟩ = some (.int .i64 n2) := by simp [go_sem]
      have y2 : (wr.alloc (.cells #[.int .i64 n1, .int .i64 n2, .int .i64 n3, .int .i64 n4, .int .i64 n5] 41)).cell? ⟨wr.heap.size, 2, none⟩ = some (.int .i64 n3) := by simp [go_sem]
      have hsum1 : IntKind.i64.wrap (totC (ns.take k) + n2) = totC (ns.take k) + n2 := by rw [IntKind.wrap_i64]; omega
      have hsum2 : IntKind.i64.wrap (totM (ns.take k) + n3) = totM (ns.take k) + n3 := by rw [IntKind.wrap_i64]; omega
      have B5 : Hid (∀ C M, But w1.heap.size wz (((wr.alloc (.cells #[.int .i64 n1, .int .i64 n2, .int .i64 n3, .int .i64 n4, .int .i64 n5] 41)).setCell ⟨w1.heap.size, 0, none⟩ (.int .i64 C)).setCell ⟨w1.heap.size, 1, none⟩ (.int .i64 M))) := fun C M => (hB.out.trans (But.of BA.out (by omega))).trans ((But.setCell _ _ _ _).trans (But.setCell _ _ _ _))
      have ZZ : Hid (∀ C M : Int, (((wr.alloc (.cells #[.int .i64 n1, .int .i64 n2, .int .i64 n3, .int .i64 n4, .int .i64 n5] 41)).setCell ⟨w1.heap.size, 0, none⟩ (.int .i64 C)).setCell ⟨w1.heap.size, 1, none⟩ (.int .i64 M)).cell? ⟨w1.heap.size, 0, none⟩ = some (.int .i64 C) ∧ (((wr.alloc (.cells #[.int .i64 n1, .int .i64 n2, .int .i64 n3, .int .i64 n4, .int .i64 n5] 41)).setCell ⟨w1.heap.size, 0, none⟩ (.int .i64 C)).setCell ⟨w1.heap.size, 1, none⟩ (.int .i64 M)).cell? ⟨w1.heap.size, 1, none⟩ = some (.int .i64 M) ∧ (((wr.alloc (.cells #[.int .i64 n1, .int .i64 n2, .int .i64 n3, .int .i64 n4, .int .i64 n5] 41)).setCell ⟨w1.heap.size, 0, none⟩ (.int .i64 C)).setCell ⟨w1.heap.size, 1, none⟩ (.int .i64 M)).frozen? ⟨w1.heap.size, 0, none⟩ = false ∧ (((wr.alloc (.cells #[.int .i64 n1, .int .i64 n2, .int .i64 n3, .int .i64 n4, .int .i64 n5] 41)).setCell ⟨w1.heap.size, 0, none⟩ (.int .i64 C)).setCell ⟨w1.heap.size, 1, none⟩ (.int .i64 M)).frozen? ⟨w1.heap.size, 1, none⟩ = false) := by
        intro C M
        refine ⟨?_, ?_, ?_, ?_⟩
        · rw [World.cell?_setCell_other _ _ _ _ (by intro e; injection e with e1 e2; omega), World.cell?_setCell_same _ _ _ s0]
        · refine World.cell?_setCell_same _ _ _ (u := .int .i64 (totM (ns.take k))) ?_
          rw [World.cell?_setCell_other _ _ _ _ (by intro e; injection e with e1 e2; omega)]; exact s1
        · rw [World.frozen?_setCell, World.frozen?_setCell]; exact s2
        · rw [World.frozen?_setCell, World.frozen?_setCell]; exact s3
      have ne1 : w1.heap.size ≠ wr.heap.size := by omega
      have ne2 : wr.heap.size ≠ w1.heap.size := by omega
      have u0 := (World.cell?_setCell_other (wr.alloc (.cells #[.int .i64 n1, .int .i64 n2, .int .i64 n3, .int .i64 n4, .int .i64 n5] 41)) ⟨w1.heap.size, 0, none⟩ ⟨w1.heap.size, 1, none⟩ (.int .i64 (totC (ns.take k) + n2)) (by intro e; injection e with e1 e2; omega)).trans s1
      have u1 := (World.cell?_setCell_other (wr.alloc (.cells #[.int .i64 n1, .int .i64 n2, .int .i64 n3, .int .i64 n4, .int .i64 n5] 41)) ⟨w1.heap.size, 0, none⟩ ⟨wr.heap.size, 2, none⟩ (.int .i64 (totC (ns.take k) + n2)) (by intro e; injection e with e1 e2; omega)).trans y2
      have TCt' := hid TCt.out.symm
      have TMt' := hid TMt.out.symm
      generalize totC (ns.take k) = SC at *
      generalize totM (ns.take k) = SM at *
      have ZF := hid (ZZ.out (SC + n2) (SM + n3))
      have BF := hid (B5.out (SC + n2) (SM + n3))
      clear P1 P2 TCt TMt hC hB BA ZZ B5
      go_wp2
      go_roundw
      case rel => exact ⟨k + 1, by omega, by go_num, by rw [← TCt'.out, ← TMt'.out]; exact ZF, BF⟩
      case measure => simp [intOf]; omega
    · have tk : ns.take k = ns := List.take_of_length_le (by rw [HL.out]; omega)
      rw [tk] at hC
      obtain ⟨s0, s1, _, _⟩ := hC.out
      have p0 := hB.out.cell C0.out.1 (by omega)
      have p1 := hB.out.cell C0.out.2.1 (by omega)
      have p2 := hB.out.frozen C0.out.1 (by omega) C0.out.2.2.1
      have p3 := hB.out.frozen C0.out.2.1 (by omega) C0.out.2.2.2
      have GD := hid (good_any (totC ns) (totM ns) wr)
      by_cases hg : okp (totC ns) ∧ okp (totM ns)
      · have ev : okv (totC ns, totM ns) = true := by simpa [okv] using hg
        have E1 : Hid (totE ns = 0) := by unfold Hid; rw [EC.out, if_pos hg]
        have E2 : Hid (totV ns = (totC ns, totM ns)) := by unfold Hid totV; rw [E1.out]; rfl
        rw [ev] at GD
        clear ev hg EC hC
        generalize totC ns = NC at *
        generalize totM ns = NM at *
        go_wp2_with fail
        refine GD.out.mono ?_
        rintro e w3 ⟨rfl, b3⟩
        have q0 := keepc b3 p0
        have q1 := keepc b3 p1
        have q2 := keepf b3 p0 p2
        have q3 := keepf b3 p1 p3
        have r0 := keepc b3 s0
        have r1 := keepc b3 s1
        have B3 := hid (KB.out.trans (b3.mono KB.out.size))
        clear b3 p0 p1 p2 p3 s0 s1
        go_wp2
        rw [E1.out, E2.out]
        exact bodyPost_ret (v := .tuple #[.agg #[.int .i64 NC, .int .i64 NM], .int .i64 0]) (by simp [results, Try.results24, go_sem, q0, q1]) rfl ⟨rfl, (B3.out.setCell (by simp <;> omega) _).setCell (by simp <;> omega) _⟩
      · have ev : okv (totC ns, totM ns) = false := by
          cases hh : okv (totC ns, totM ns)
          · rfl
          · exact absurd (okv_true hh) hg
        have E1 : Hid (totE ns = 2) := by unfold Hid; rw [EC.out, if_neg hg]
        have E2 : Hid (totV ns = (0, 0)) := by unfold Hid totV; rw [E1.out]; rfl
        rw [ev] at GD
        clear ev hg EC hC
        generalize totC ns = NC at *
        generalize totM ns = NM at *
        go_wp2_with fail
        refine GD.out.mono ?_
        rintro e w3 ⟨rfl, b3⟩
        have q0 := keepc b3 p0
        have q1 := keepc b3 p1
        have q2 := keepf b3 p0 p2
        have q3 := keepf b3 p1 p3
        have B3 := hid (KB.out.trans (b3.mono KB.out.size))
        clear b3 p0 p1 p2 p3 s0 s1
        go_wp2
        rw [E1.out, E2.out]
        exact bodyPost_ret (v := .tuple #[.agg #[.int .i64 0, .int .i64 0], .int .i64 2]) (by simp [results, Try.results24, go_sem, q0, q1]) rfl ⟨rfl, (B3.out.setCell (by simp <;> omega) _).setCell (by simp <;> omega) _⟩

end Go.Proofs.Ytikalkigmnipiaa
