/-
  Contracts of stride: Leave, Change.
-/
import Derived.Test.YtdenhpclopjjgaaGJ
namespace Go.Proofs.Ytdenhpclopjjgaa
open Go.RowKit Go.Deep Go.Maps
set_option linter.unusedVariables false
set_option linter.unusedSimpArgs false

/-- An empty row turned into nobody: the slice stands, of no elements. -/
theorem Gr.del_ps {l : List Cl} (h : Gr l) {i : Nat} (hi : i < l.length) : ∀ j, j < (delC l i).length → 0 ≤ (ca (delC l i) j).ps ∧ (ca (delC l i) j).ps ≤ 2000000 := by
  intro j hj
  rw [delC_len hi] at hj
  rw [ca_del hi hj]
  split
  · obtain ⟨_, a, b, c, d⟩ := h.rng j (by omega)
    have := stv_pos a b; omega
  · obtain ⟨_, a, b, c, d⟩ := h.rng (j + 1) (by omega)
    have := stv_pos a b; omega

set_option maxRecDepth 100000 in
set_option maxHeartbeats 4000000 in
theorem leave_any (gb r : Nat) (l : List Cl) (id : Int) (w : World) (h : Grp w gb r l) (hg : Gr l) :
    Calls Try.prog 19 #[gp gb, .int .i64 id] w fun e w' => Does w gb r (.tuple #[.int .i64 (leaveV l id), .int .i64 (leaveE l id)]) (leaveM l id) e w' := by
  have SK := hid (seek_any gb r l id w h hg)
  have HG := hid h
  have GR := hid hg
  have HL := hg.len
  clear h hg
  cases hh : hs l id with
  | false =>
    have X0 : Hid (leaveV l id = 0) := by unfold Hid leaveV; rw [if_neg (by simp [hh])]
    have X1 : Hid (leaveE l id = 8) := by unfold Hid leaveE; rw [if_neg (by simp [hh])]
    have X2 : Hid (leaveM l id = l) := by unfold Hid leaveM; rw [if_neg (by simp [hh])]
    rw [hh] at SK
    clear hh
    go_enter Try.func19, Try.ntmps19
    go_wp2_with fail
    refine SK.out.mono ?_
    rintro e w1 ⟨rfl, b1⟩
    go_wp2
    go_ret2
    exact ⟨r, by rw [X0.out, X1.out]; rfl, by rw [X2.out]; exact HG.out.below b1, Tn.of b1, .inl rfl⟩
  | true =>
    obtain ⟨hk, _⟩ := hs_yes hh
    have X0 : Hid (leaveV l id = (ca l (sk l id)).ps) := by unfold Hid leaveV; rw [if_pos hh]
    have X1 : Hid (leaveE l id = 0) := by unfold Hid leaveE; rw [if_pos hh]
    have X2 : Hid (leaveM l id = lev (delC l (sk l id))) := by unfold Hid leaveM; rw [if_pos hh]
    rw [hh] at SK
    have PS := hid (GR.out.del_ps hk)
    have DL : Hid ((delC l (sk l id)).length = l.length - 1) := delC_len hk
    obtain ⟨cap, cc, hne, hrow⟩ := HG.out.row (by omega)
    have CC := hid cc
    have RW := hid hrow
    have PC := hid (hrow.c2 _ hk)
    have hcap := hrow.le
    have FF : Hid (w.frozen? ⟨gb, 0, none⟩ = false) := by obtain ⟨_, _, _, f, _⟩ := HG.out.box; exact f
    clear hh cc hrow
    generalize hsk : sk l id = i at *
    have HSK := hid hsk
    clear hsk
    have ia : (0 : Int) ≤ (i : Int) := by omega
    have ib : (i : Int) < (l.length : Int) := by omega
    have hw : IntKind.i64.wrap ((i : Int) + 1) = (i : Int) + 1 := by rw [IntKind.wrap_i64]; omega
    go_enter Try.func19, Try.ntmps19
    go_wp2_with fail
    refine SK.out.mono ?_
    rintro e w1 ⟨rfl, b1⟩
    have c0 := keepc b1 CC.out
    have f0 := keepf b1 CC.out FF.out
    have p0 := keepc b1 PC.out
    have B1 := hid b1
    have R1 := hid (RW.out.below b1)
    generalize hps : (ca l i).ps = ps at *
    have HPS := hid hps
    clear hps
    go_wp2_with fail
    refine (cdel_any r l.length cap i l w1 R1.out rfl hk HL).mono ?_
    rintro e w2 ⟨rfl, R2, T2⟩
    have hgl := HG.out.lt.1
    have K2 : w2.heap[gb]? = w1.heap[gb]? := T2.oth gb (by have := B1.out.size; omega) (fun e => hne e.symm) (fun e => hne e.symm)
    have c2 : w2.cell? ⟨gb, 0, none⟩ = some (.slice (some ⟨r, 0, none⟩) l.length cap) := (World.cell?_of_block (w := w1) K2).trans c0
    have f2 : w2.frozen? ⟨gb, 0, none⟩ = false := (World.frozen?_of_block (w := w1) K2).trans f0
    have G3 := (HG.out.below B1.out).stored (m := delC l i) K2 hne (by rw [DL.out]; exact R2)
    rw [DL.out] at G3
    have T3 : Hid (Tn gb r w (w2.setCell ⟨gb, 0, none⟩ (.slice (some ⟨r, 0, none⟩) (l.length - 1) cap))) := ((Tn.of B1.out).trans (⟨T2.bel, fun k hk _ hk2 => T2.oth k hk hk2 hk2⟩ : Tn gb r w1 w2) (.inl rfl)).trans (Tn.setCell (.inl rfl)) (.inl rfl)
    have SE := hid (settle_any gb r _ _ G3 (by rw [DL.out]; omega) PS.out)
    clear R2 T2 K2 G3 hgl c0 f0 b1 p0
    go_wp2_with fail
    refine SE.out.mono ?_
    rintro e w3 ⟨⟨v3, rfl⟩, G4, T4⟩
    have Q4 := hid G4
    have T5 := hid (T3.out.trans T4 (.inl rfl))
    clear G4 T4
    go_wp2
    go_ret2
    exact ⟨r, by rw [X0.out, X1.out]; rfl, by rw [X2.out]; exact Q4.out, T5.out, .inl rfl⟩

set_option maxRecDepth 100000 in
set_option maxHeartbeats 4000000 in
theorem change_any (gb r : Nat) (l : List Cl) (id t : Int) (w : World) (h : Grp w gb r l) (hg : Gr l) :
    Calls Try.prog 20 #[gp gb, .int .i64 id, .int .i64 t] w fun e w' => Does w gb r (.int .i64 (changeE l id t)) (changeM l id t) e w' := by
  have SK := hid (seek_any gb r l id w h hg)
  have HG := hid h
  have GR := hid hg
  have HL := hg.len
  clear h hg
  cases hh : hs l id with
  | false =>
    have E1 : changeE l id t = 8 := by unfold changeE; rw [if_neg (by simp [hh])]
    have X1 := hid E1
    have X2 : Hid (changeM l id t = l) := by unfold Hid changeM; rw [E1]; rfl
    rw [hh] at SK
    clear hh E1
    go_enter Try.func20, Try.ntmps20
    go_wp2_with fail
    refine SK.out.mono ?_
    rintro e w1 ⟨rfl, b1⟩
    go_wp2
    go_ret
    exact ⟨r, by rw [X1.out]; rfl, by rw [X2.out]; exact HG.out.below b1, Tn.of b1, .inl rfl⟩
  | true =>
    have IR := hid (inRange_any t)
    cases ht : tkOk t with
    | false =>
      have E1 : changeE l id t = 1 := by unfold changeE; rw [if_pos hh, if_neg (by simp [ht])]
      have X1 := hid E1
      have X2 : Hid (changeM l id t = l) := by unfold Hid changeM; rw [E1]; rfl
      rw [hh] at SK
      rw [ht] at IR
      clear hh E1 ht
      go_enter Try.func20, Try.ntmps20
      go_wp2_with fail
      refine SK.out.mono ?_
      rintro e w1 ⟨rfl, b1⟩
      go_wp2_with fail
      refine (IR.out w1).mono ?_
      rintro e w2 ⟨rfl, rfl⟩
      go_wp2
      go_ret
      exact ⟨r, by rw [X1.out]; rfl, by rw [X2.out]; exact HG.out.below b1, Tn.of b1, .inl rfl⟩
    | true =>
      obtain ⟨t1, t2⟩ := tkOk_yes ht
      obtain ⟨hk, _⟩ := hs_yes hh
      have E1 : changeE l id t = 0 := by unfold changeE; rw [if_pos hh, if_pos ht]
      have X1 := hid E1
      have X2 : Hid (changeM l id t = l.set (sk l id) (chC (ca l (sk l id)) t)) := by unfold Hid changeM; rw [if_pos E1]
      rw [hh] at SK
      rw [ht] at IR
      obtain ⟨cap, cc, hne, hrow⟩ := HG.out.row (by omega)
      have CC := hid cc
      have RW := hid hrow
      have hcap := hrow.le
      have FF : Hid (w.frozen? ⟨gb, 0, none⟩ = false) := by obtain ⟨_, _, _, f, _⟩ := HG.out.box; exact f
      obtain ⟨_, q1, q2, q3, q4⟩ := GR.out.rng _ hk
      have RG := ch_rng q1 q2 q3 q4 t1 t2
      clear hh cc hrow E1 ht
      generalize hsk : sk l id = i at *
      have HSK := hid hsk
      clear hsk
      have P1 := hid (RW.out.c1 i hk)
      have P2 := hid (RW.out.c2 i hk)
      have ia : (0 : Int) ≤ (i : Int) := by omega
      have ib : (i : Int) < (l.length : Int) := by omega
      obtain ⟨nw, hnw⟩ : ∃ nw, (ca l i).ps * (ca l i).tk / t = nw := ⟨_, rfl⟩
      have hd : Int.tdiv ((ca l i).ps * (ca l i).tk) t = nw := by rw [Int.tdiv_eq_ediv_of_nonneg RG.1, hnw]
      rw [hnw] at RG
      have sp := stv_pos t1 t2
      have hw1 : IntKind.i64.wrap ((ca l i).ps * (ca l i).tk) = (ca l i).ps * (ca l i).tk := by rw [IntKind.wrap_i64]; omega
      have hw2 : IntKind.i64.wrap nw = nw := by rw [IntKind.wrap_i64]; omega
      have hz : ¬ (t = 0) := by omega
      have HN := hid hnw
      have AL : Hid (∀ W, RowC W r l.length cap (ca l) → RowC ((W.setCell ⟨r, i * 3 + 2, none⟩ (.int .i64 nw)).setCell ⟨r, i * 3 + 1, none⟩ (.int .i64 t)) r l.length cap (ca (l.set i (chC (ca l i) t)))) := by
        intro W hW
        have a1 := hW.put hk ⟨(ca l i).id, (ca l i).tk, nw⟩ 2 (.int .i64 nw) (.inr ⟨rfl, rfl, rfl, rfl⟩)
        have a2 := a1.put hk ⟨(ca l i).id, t, nw⟩ 1 (.int .i64 t) (.inl ⟨rfl, rfl, by simp, by simp⟩)
        refine a2.congr (fun j hj => ?_)
        rw [ca_set hj]
        by_cases e : j = i
        · subst e; simp [chC, hnw]
        · have e' : ¬ i = j := fun h => e h.symm
          simp [e, e']
      clear hnw q1 q2 q3 q4 RG
      generalize (ca l i).ps = ps at *
      generalize (ca l i).tk = tk at *
      go_enter Try.func20, Try.ntmps20
      go_wp2_with fail
      refine SK.out.mono ?_
      rintro e w1 ⟨rfl, b1⟩
      go_wp2_with fail
      refine (IR.out w1).mono ?_
      rintro e w2 ⟨rfl, rfl⟩
      have c0 := keepc b1 CC.out
      have R1 := RW.out.below b1
      have p1 := keepc b1 P1.out
      have p2 := keepc b1 P2.out
      have f1 := R1.fz (i * 3 + 1)
      have f2 := R1.fz (i * 3 + 2)
      have G1 := hid (HG.out.below b1)
      have HR1 := hid R1
      have B1 := hid b1
      clear R1
      go_wp2_with fail
      go_region_with fail
      all_goals go_wp2
      all_goals
        go_ret
        have a3 := AL.out w1.drew (HR1.out.below (Below.refl _ _).drew)
        have k3 : ((w1.drew.setCell ⟨r, i * 3 + 2, none⟩ (.int .i64 nw)).setCell ⟨r, i * 3 + 1, none⟩ (.int .i64 t)).heap[gb]? = w1.heap[gb]? := (Below.heap_setCell _ _ _ _ (fun e => hne e.symm)).trans (Below.heap_setCell _ _ _ _ (fun e => hne e.symm))
        exact ⟨r, by rw [X1.out]; rfl, by rw [X2.out]; exact G1.out.turn (by omega) k3 c0 (by rw [List.length_set]) a3, ((Tn.of B1.out.drew).trans (Tn.setCell (.inr rfl)) (.inl rfl)).trans (Tn.setCell (.inr rfl)) (.inl rfl), .inl rfl⟩

end Go.Proofs.Ytdenhpclopjjgaa
