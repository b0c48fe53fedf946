/-
  The document's answers of place: Find.
-/
import Derived.Test.YtikalkigmnipiaaPQ
namespace Go.Proofs.Ytikalkigmnipiaa
open Go.RowKit Go.Deep Go.Maps Go.Shelf
set_option linter.unusedVariables false
set_option linter.unusedSimpArgs false

theorem takeCap {w : World} {a : Option Addr} {len cap : Nat} {l : List Int} (h : HoldsN w a len cap l) {n : Nat} (hn : n ≤ len) (ha : a ≠ none) : HoldsN w a n cap (l.take n) := by
  obtain ⟨h1, h2, h3, h4, h5⟩ := h
  refine ⟨by rw [List.length_take]; omega, by omega, by omega, fun e => absurd e ha, fun hp => ?_⟩
  obtain ⟨b, off, e, hlt, hc⟩ := h5 (by omega)
  refine ⟨b, off, e, hlt, fun j x hx => hc j x ?_⟩
  rw [List.getElem?_take] at hx
  split at hx
  · exact hx
  · cases hx
/-- What the document's search has behind k nodes. -/
def FO (ns : List Nd) (ls : List Lz) (nc nm : Int) (k : Nat) (w : World) (b v : Value) : Prop :=
  (tgt (ns.map (rmA ls)) nc nm k = none ∧ b = .int .i64 (-1) ∧ v = .slice none 0 0) ∨
  ∃ j a c, tgt (ns.map (rmA ls)) nc nm k = some j ∧ b = .int .i64 (da ns j).id ∧ v = .slice a (frL ns ls j).length c ∧ HoldsN w a (frL ns ls j).length c (frL ns ls j)
theorem step_none {ns : List Nd} {ls : List Lz} {nc nm : Int} {k : Nat} (hE : plE ns ls = 0) (hk : k < ns.length) (h : tgt (ns.map (rmA ls)) nc nm k = none) : tgt (ns.map (rmA ls)) nc nm (k + 1) = if nc ≤ ((frL ns ls k).length : Int) ∧ nm ≤ frM ns ls k then some k else none := by
  obtain ⟨h64, hn, hp⟩ := plE_zero hE
  have e : tgt (ns.map (rmA ls)) nc nm (k + 1) = stepT (ns.map (rmA ls)) nc nm k (tgt (ns.map (rmA ls)) nc nm k) := rfl
  rw [e, h]
  unfold stepT
  simp only
  rw [ra_map ns ls hk, fc_free hn hp hk]
  have e1 : freeT (rmA ls (da ns k)).tk (da ns k).co.toNat = frL ns ls k := rfl
  have e2 : (rmA ls (da ns k)).fm = frM ns ls k := rfl
  rw [e1, e2]
  unfold fitB
  by_cases h1 : nc ≤ ((frL ns ls k).length : Int) ∧ nm ≤ frM ns ls k
  · rw [if_pos h1, decide_eq_true h1.1, decide_eq_true h1.2]; rfl
  · rw [if_neg h1]
    by_cases h2 : nc ≤ ((frL ns ls k).length : Int)
    · have h3 : ¬ nm ≤ frM ns ls k := fun h => h1 ⟨h2, h⟩
      rw [decide_eq_true h2, decide_eq_false h3]; rfl
    · rw [decide_eq_false h2]; rfl
theorem step_some {ns : List Nd} {ls : List Lz} {nc nm : Int} {k j : Nat} (hE : plE ns ls = 0) (hk : k < ns.length) (h : tgt (ns.map (rmA ls)) nc nm k = some j) : tgt (ns.map (rmA ls)) nc nm (k + 1) = if (nc ≤ ((frL ns ls k).length : Int) ∧ nm ≤ frM ns ls k) ∧ (frL ns ls k).length < (frL ns ls j).length then some k else some j := by
  obtain ⟨h64, hn, hp⟩ := plE_zero hE
  have hj := tgt_lt h
  have e : tgt (ns.map (rmA ls)) nc nm (k + 1) = stepT (ns.map (rmA ls)) nc nm k (tgt (ns.map (rmA ls)) nc nm k) := rfl
  rw [e, h]
  unfold stepT
  simp only
  rw [ra_map ns ls hk, ra_map ns ls (by omega : j < ns.length), fc_free hn hp hk, fc_free hn hp (by omega : j < ns.length)]
  have e1 : freeT (rmA ls (da ns k)).tk (da ns k).co.toNat = frL ns ls k := rfl
  have e3 : freeT (rmA ls (da ns j)).tk (da ns j).co.toNat = frL ns ls j := rfl
  have e2 : (rmA ls (da ns k)).fm = frM ns ls k := rfl
  rw [e1, e2, e3]
  have hb : (fitB nc nm ((frL ns ls k).length : Int) (frM ns ls k) && decide (((frL ns ls k).length : Int) < ((frL ns ls j).length : Int))) = true ↔ ((nc ≤ ((frL ns ls k).length : Int) ∧ nm ≤ frM ns ls k) ∧ (frL ns ls k).length < (frL ns ls j).length) := by unfold fitB; simp only [Bool.and_eq_true, decide_eq_true_eq, Int.ofNat_lt]
  by_cases hP : (nc ≤ ((frL ns ls k).length : Int) ∧ nm ≤ frM ns ls k) ∧ (frL ns ls k).length < (frL ns ls j).length
  · rw [if_pos (hb.2 hP), if_pos hP]
  · rw [if_neg (fun h => hP (hb.1 h)), if_neg hP]

set_option maxRecDepth 100000 in
set_option maxHeartbeats 16000000 in
theorem rpfind_any (a : Option Addr) (len cap : Nat) (ns : List Nd) (qa : Option Addr) (ql qc : Nat) (l : List Le) (nc nm : Int) (w : World) (h : HoldsD w a len cap ns) (hl : HoldsL w qa ql qc l) :
    Calls Try.prog 18 #[.slice a len cap, .slice qa ql qc, .agg #[.int .i64 nc, .int .i64 nm]] w fun e w' => ∃ b c, e = .returned (.tuple #[.int .i64 (fndI ns (l.map Le.z) nc nm), .slice b (fndL ns (l.map Le.z) nc nm).length c, .int .i64 (fndE ns (l.map Le.z) nc nm)]) ∧ HoldsN w' b (fndL ns (l.map Le.z) nc nm).length c (fndL ns (l.map Le.z) nc nm) ∧ Below w.heap.size w w' := by
  have B0 : Hid (Below w.heap.size w (w.alloc (.cells #[.int .i64 nc, .int .i64 nm] 25))) := (Below.refl _ w).alloc (Nat.le_refl _) _
  have M0 : Hid ((w.alloc (.cells #[.int .i64 nc, .int .i64 nm] 25)).cell? ⟨w.heap.size, 0, none⟩ = some (.int .i64 nc)) := by unfold Hid; simp [go_sem]
  have M1 : Hid ((w.alloc (.cells #[.int .i64 nc, .int .i64 nm] 25)).cell? ⟨w.heap.size, 1, none⟩ = some (.int .i64 nm)) := by unfold Hid; simp [go_sem]
  have CK := hid (rplcheck_any a len cap ns qa ql qc l (w.alloc (.cells #[.int .i64 nc, .int .i64 nm] 25)) (h.below B0.out) (hl.below B0.out))
  have FR := hid (fun W (hW : Below w.heap.size w W) hE j hj => rfree_any ns j qa ql qc l W (hl.below hW) hE hj)
  have HH := hid h
  have HL := hid h.1
  have hcap := h.2.1
  clear h hl
  generalize l.map Le.z = ls at *
  have nilH : Hid (∀ W, HoldsN W none 0 0 []) := fun W => ⟨rfl, by omega, by omega, fun _ => ⟨rfl, rfl⟩, fun h => absurd h (by omega)⟩
  have BAD : Hid (fndE ns ls nc nm ≠ 0 → fndI ns ls nc nm = 0 ∧ fndL ns ls nc nm = []) := fun h => ⟨by unfold fndI; rw [if_neg h], by unfold fndL; rw [if_neg h]⟩
  by_cases hE : plE ns ls = 0
  case neg =>
    have t : (plE ns ls != 0) = true := by simpa using hE
    have t' : (plE ns ls == 0) = false := by simpa using hE
    have E1 : fndE ns ls nc nm = plE ns ls := by unfold fndE; rw [if_neg hE]
    obtain ⟨E3, E2⟩ := BAD.out (by rw [E1]; exact hE)
    rw [E1, E2, E3]
    clear hE E1 E2 E3 FR BAD
    generalize plE ns ls = PE at *
    go_enter Try.func18, Try.ntmps18
    go_wp2_with fail
    refine CK.out.mono ?_
    rintro e w1 ⟨rfl, b1⟩
    have B1 := hid (B0.out.trans (b1.mono B0.out.size))
    clear b1
    go_wp2
    go_ret3
    exact ⟨none, 0, rfl, nilH.out _, B1.out⟩
  obtain ⟨h64, hn, hp⟩ := plE_zero hE
  have HN := hid hn
  have HE := hid hE
  have hlen : len ≤ 64 := by rw [← HL.out]; exact h64
  rw [hE] at CK
  have EC : Hid (fndE ns ls nc nm = if needB nc nm = true then 1 else if (fndO ns ls nc nm).isSome then 0 else 10) := by unfold Hid fndE; rw [if_pos hE]
  have ONE : Hid (needB nc nm = true → fndE ns ls nc nm = 1 ∧ fndI ns ls nc nm = 0 ∧ fndL ns ls nc nm = []) := fun h => by
    have e : fndE ns ls nc nm = 1 := by rw [EC.out, if_pos h]
    exact ⟨e, BAD.out (by rw [e]; decide)⟩
  have GD := hid (fun W => good_any nc nm W)
  clear hE hn hp h64
  by_cases g1 : nc < 1
  · have t1 : decide (nc < 1) = true := by simpa using g1
    obtain ⟨E1, E3, E2⟩ := ONE.out (by unfold needB; rw [t1]; rfl)
    rw [E1, E2, E3]
    clear E1 E2 E3 ONE EC FR BAD g1
    go_enter Try.func18, Try.ntmps18
    go_wp2_with fail
    refine CK.out.mono ?_
    rintro e w1 ⟨rfl, b1⟩
    have m0 := keepc b1 M0.out
    have B1 := hid (B0.out.trans (b1.mono B0.out.size))
    clear b1
    go_wp2
    go_ret3
    exact ⟨none, 0, rfl, nilH.out _, B1.out⟩
  have t1 : decide (nc < 1) = false := by simpa using g1
  by_cases g2 : 64 < nc
  · have t2 : decide (64 < nc) = true := by simpa using g2
    obtain ⟨E1, E3, E2⟩ := ONE.out (by unfold needB; rw [t1, t2]; rfl)
    rw [E1, E2, E3]
    clear E1 E2 E3 ONE EC FR BAD g1 g2
    go_enter Try.func18, Try.ntmps18
    go_wp2_with fail
    refine CK.out.mono ?_
    rintro e w1 ⟨rfl, b1⟩
    have m0 := keepc b1 M0.out
    have B1 := hid (B0.out.trans (b1.mono B0.out.size))
    clear b1
    go_wp2
    go_ret3
    exact ⟨none, 0, rfl, nilH.out _, B1.out⟩
  have t2 : decide (64 < nc) = false := by simpa using g2
  cases hv : okv (nc, nm)
  · have hck : chk nc nm ≠ 0 := by rw [chk_no hv]; decide
    obtain ⟨E1, E3, E2⟩ := ONE.out (by unfold needB; rw [t1, t2, decide_eq_true hck]; rfl)
    rw [E1, E2, E3]
    rw [hv] at GD
    clear E1 E2 E3 ONE EC FR BAD g1 g2 hv hck
    go_enter Try.func18, Try.ntmps18
    go_wp2_with fail
    refine CK.out.mono ?_
    rintro e w1 ⟨rfl, b1⟩
    have m0 := keepc b1 M0.out
    have m1 := keepc b1 M1.out
    have B1 := hid (B0.out.trans (b1.mono B0.out.size))
    clear b1
    go_wp2_with fail
    refine (GD.out _).mono ?_
    rintro e w2 ⟨rfl, b2⟩
    have B2 := hid (B1.out.trans (b2.mono B1.out.size))
    clear b2
    go_wp2
    go_ret3
    exact ⟨none, 0, rfl, nilH.out _, B2.out⟩
  have hck : ¬ chk nc nm ≠ 0 := by rw [chk_ok hv]; decide
  have nb : needB nc nm = false := by unfold needB; rw [t1, t2, decide_eq_false hck]; rfl
  rw [nb] at EC
  rw [hv] at GD
  clear ONE hv hck nb
  go_enter Try.func18, Try.ntmps18
  go_wp2_with fail
  refine CK.out.mono ?_
  rintro e w1 ⟨rfl, b1⟩
  have m0 := keepc b1 M0.out
  have m1 := keepc b1 M1.out
  have B1 := hid (B0.out.trans (b1.mono B0.out.size))
  clear b1 CK M0 M1
  go_wp2_with fail
  refine (GD.out _).mono ?_
  rintro e w2 ⟨rfl, b2⟩
  have B2 := hid (B1.out.trans (b2.mono B1.out.size))
  have M0 := hid (keepc b2 m0)
  have M1 := hid (keepc b2 m1)
  clear b2 B1 GD m0 m1
  go_wp2_with fail
  go_loopw [41, 10, 11] (fun i b v wr => ∃ k : Nat, k ≤ len ∧ i = .int .i64 (k : Int) ∧ Hid (FO ns ls nc nm k wr b v) ∧ Hid (Below w2.heap.size w2 wr)) (fun i _ _ _ => len - (intOf i).toNat)
  case atStart => exact ⟨0, by omega, rfl, .inl ⟨rfl, rfl, rfl⟩, Below.refl _ _⟩
  case round =>
    obtain ⟨k, hk, rfl, hF, hB⟩ := hrel
    have KB := hid (B2.out.trans (hB.out.mono B2.out.size))
    by_cases hlt : k < len
    · obtain ⟨db, dof, rfl, R⟩ := HH.out.rowD (by omega)
      obtain ⟨d1, d2, d3, d4, d5⟩ := R k hlt
      have c1 := keepc KB.out d1
      have c2 := keepc KB.out d2
      have c3 := keepc KB.out d3
      have c4 := keepc KB.out d4
      have c5 := keepc KB.out d5
      have ka : (0 : Int) ≤ (k : Int) := by omega
      have kb : (k : Int) < (len : Int) := by omega
      have hk' : k < ns.length := by rw [HL.out]; exact hlt
      have FC := hid (fun W hW => FR.out W hW HE.out k hk')
      have SN := hid (fun h => step_none (nc := nc) (nm := nm) HE.out hk' h)
      have SS := hid (fun j h => step_some (nc := nc) (nm := nm) (j := j) HE.out hk' h)
      have IDP := hid (fun j (hj : j < ns.length) => ((ndsB_iff.1 HN.out).1 j hj).2)
      clear d1 d2 d3 d4 d5 R
      obtain ⟨nd, hd⟩ : ∃ x, da ns k = x := ⟨_, rfl⟩
      rw [hd] at c1 c2 c3 c4 c5 FC
      have HD := hid hd
      clear hd
      obtain ⟨n1, n2, n3, n4, n5⟩ := nd
      simp only at FC c1 c2 c3 c4 c5
      have BA : Hid (Below wr.heap.size wr (wr.alloc (.cells #[.int .i64 n1, .int .i64 n2, .int .i64 n3, .int .i64 n4, .int .i64 n5] 41))) := (Below.refl _ wr).alloc (Nat.le_refl _) _
      have KA : Hid (Below w.heap.size w (wr.alloc (.cells #[.int .i64 n1, .int .i64 n2, .int .i64 n3, .int .i64 n4, .int .i64 n5] 41))) := KB.out.alloc KB.out.size _
      have Y0 : Hid ((wr.alloc (.cells #[.int .i64 n1, .int .i64 n2, .int .i64 n3, .int .i64 n4, .int .i64 n5] 41)).cell? ⟨wr.heap.size, 0, none⟩ = some (.int .i64 n1)) := by unfold Hid; simp [go_sem]
      have N0 := hid (keepc BA.out (keepc hB.out M0.out))
      have N1 := hid (keepc BA.out (keepc hB.out M1.out))
      go_wp2_with fail
      refine (FC.out _ KA.out).mono ?_
      rintro e w4 ⟨v4, rfl, o4, b4⟩
      have y0 := keepc b4 Y0.out
      have m0 := keepc b4 N0.out
      have m1 := keepc b4 N1.out
      have Q4 := BA.out.trans (b4.mono BA.out.size)
      have B4 := hid (hB.out.trans (Q4.mono hB.out.size))
      have QB := hid Q4
      obtain ⟨fa, fc, rfl⟩ := o4.form
      have HF := hid (o4.holds encN_len)
      clear b4 FC Q4 o4 Y0 N0 N1 BA KA c1 c2 c3 c4 c5
      rcases hF.out with ⟨ho, rfl, rfl⟩ | ⟨j, wa, wc, ho, rfl, rfl, hw⟩
      · have ST := hid (SN.out ho)
        clear SN SS IDP ho hF
        by_cases g3 : nc ≤ ((frL ns ls k).length : Int)
        · by_cases g4 : nm ≤ frM ns ls k
          · have T2 : Hid (FO ns ls nc nm (k + 1) w4 (.int .i64 n1) (.slice fa (frL ns ls k).length fc)) := .inr ⟨k, fa, fc, by rw [ST.out, if_pos ⟨g3, g4⟩], by rw [HD.out], rfl, HF.out⟩
            generalize hN : (frL ns ls k).length = N at *
            generalize hM : frM ns ls k = M at *
            have t3 : decide (nc ≤ (N : Int)) = true := by simpa using g3
            have t4 : decide (nm ≤ M) = true := by simpa using g4
            clear ST g3 g4 HF hN hM
            go_wp2
            go_roundw
            case rel => exact ⟨k + 1, by omega, by go_num, T2, B4⟩
            case measure => simp [intOf]; omega
          · have T2 : Hid (FO ns ls nc nm (k + 1) w4 (.int .i64 (-1)) (.slice none 0 0)) := .inl ⟨by rw [ST.out, if_neg (fun h => g4 h.2)], rfl, rfl⟩
            generalize hN : (frL ns ls k).length = N at *
            generalize hM : frM ns ls k = M at *
            have t3 : decide (nc ≤ (N : Int)) = true := by simpa using g3
            have t4 : decide (nm ≤ M) = false := by simpa using g4
            clear ST g3 g4 HF hN hM
            go_wp2
            go_roundw
            case rel => exact ⟨k + 1, by omega, by go_num, T2, B4⟩
            case measure => simp [intOf]; omega
        · have T2 : Hid (FO ns ls nc nm (k + 1) w4 (.int .i64 (-1)) (.slice none 0 0)) := .inl ⟨by rw [ST.out, if_neg (fun h => g3 h.1)], rfl, rfl⟩
          generalize hN : (frL ns ls k).length = N at *
          generalize hM : frM ns ls k = M at *
          have t3 : decide (nc ≤ (N : Int)) = false := by simpa using g3
          clear ST g3 HF hN hM
          go_wp2
          go_roundw
          case rel => exact ⟨k + 1, by omega, by go_num, T2, B4⟩
          case measure => simp [intOf]; omega
      · have ST := hid (SS.out j ho)
        have hjk := tgt_lt ho
        have hjn := IDP.out j (by omega)
        have t5 : decide ((da ns j).id < 0) = false := by simp; omega
        have KEEP : Hid (tgt (ns.map (rmA ls)) nc nm (k + 1) = some j → FO ns ls nc nm (k + 1) w4 (.int .i64 (da ns j).id) (.slice wa (frL ns ls j).length wc)) := fun h => .inr ⟨j, wa, wc, h, rfl, rfl, hw.below QB.out⟩
        clear SN SS IDP ho hF hjn hw
        by_cases g3 : nc ≤ ((frL ns ls k).length : Int)
        · by_cases g4 : nm ≤ frM ns ls k
          · by_cases g5 : (frL ns ls k).length < (frL ns ls j).length
            · have T2 : Hid (FO ns ls nc nm (k + 1) w4 (.int .i64 n1) (.slice fa (frL ns ls k).length fc)) := .inr ⟨k, fa, fc, by rw [ST.out, if_pos ⟨⟨g3, g4⟩, g5⟩], by rw [HD.out], rfl, HF.out⟩
              clear KEEP
              generalize hN : (frL ns ls k).length = N at *
              generalize hM : frM ns ls k = M at *
              generalize hG : (frL ns ls j).length = G at *
              generalize hI : (da ns j).id = ID at *
              have t3 : decide (nc ≤ (N : Int)) = true := by simpa using g3
              have t4 : decide (nm ≤ M) = true := by simpa using g4
              have t6 : decide (N < G) = true := by simpa using g5
              clear ST g3 g4 g5 HF hN hM hG hI
              go_wp2
              go_roundw
              case rel => exact ⟨k + 1, by omega, by go_num, T2, B4⟩
              case measure => simp [intOf]; omega
            · have T2 := hid (KEEP.out (by rw [ST.out, if_neg (fun h => g5 h.2)]))
              clear KEEP
              generalize hN : (frL ns ls k).length = N at *
              generalize hM : frM ns ls k = M at *
              generalize hG : (frL ns ls j).length = G at *
              generalize hI : (da ns j).id = ID at *
              have t3 : decide (nc ≤ (N : Int)) = true := by simpa using g3
              have t4 : decide (nm ≤ M) = true := by simpa using g4
              have t6 : decide (N < G) = false := by simpa using g5
              clear ST g3 g4 g5 HF hN hM hG hI
              go_wp2
              go_roundw
              case rel => exact ⟨k + 1, by omega, by go_num, T2, B4⟩
              case measure => simp [intOf]; omega
          · have T2 := hid (KEEP.out (by rw [ST.out, if_neg (fun h => g4 h.1.2)]))
            clear KEEP
            generalize hN : (frL ns ls k).length = N at *
            generalize hM : frM ns ls k = M at *
            generalize hG : (frL ns ls j).length = G at *
            generalize hI : (da ns j).id = ID at *
            have t3 : decide (nc ≤ (N : Int)) = true := by simpa using g3
            have t4 : decide (nm ≤ M) = false := by simpa using g4
            clear ST g3 g4 HF hN hM hG hI
            go_wp2
            go_roundw
            case rel => exact ⟨k + 1, by omega, by go_num, T2, B4⟩
            case measure => simp [intOf]; omega
        · have T2 := hid (KEEP.out (by rw [ST.out, if_neg (fun h => g3 h.1.1)]))
          clear KEEP
          generalize hN : (frL ns ls k).length = N at *
          generalize hM : frM ns ls k = M at *
          generalize hG : (frL ns ls j).length = G at *
          generalize hI : (da ns j).id = ID at *
          have t3 : decide (nc ≤ (N : Int)) = false := by simpa using g3
          clear ST g3 HF hN hM hG hI
          go_wp2
          go_roundw
          case rel => exact ⟨k + 1, by omega, by go_num, T2, B4⟩
          case measure => simp [intOf]; omega
    · have hkl : k = ns.length := by rw [HL.out]; omega
      have m0 := keepc hB.out M0.out
      rcases hF.out with ⟨ho, rfl, rfl⟩ | ⟨j, wa, wc, ho, rfl, rfl, hw⟩
      · have ho' : fndO ns ls nc nm = none := by unfold fndO; rw [← hkl]; exact ho
        have E1 : fndE ns ls nc nm = 10 := by rw [EC.out, ho']; rfl
        obtain ⟨E3, E2⟩ := BAD.out (by rw [E1]; decide)
        have H1 := hid E1
        have H2 := hid E2
        have H3 := hid E3
        clear E1 E2 E3 ho ho' hF EC BAD
        go_wp2
        go_ret3
        rw [H1.out, H2.out, H3.out]
        exact ⟨none, 0, rfl, nilH.out _, KB.out⟩
      · have ho' : fndO ns ls nc nm = some j := by unfold fndO; rw [← hkl]; exact ho
        have E1 : fndE ns ls nc nm = 0 := by rw [EC.out, ho']; rfl
        have E2 : fndL ns ls nc nm = (frL ns ls j).take nc.toNat := by unfold fndL; rw [E1, if_pos rfl, ho']; rfl
        have E3 : fndI ns ls nc nm = (da ns j).id := by unfold fndI; rw [E1, if_pos rfl, ho']; rfl
        obtain ⟨hj, hfc, hfm⟩ := fnd_fit HE.out ho'
        have hidj := ((ndsB_iff.1 HN.out).1 j hj).2
        have t5 : decide ((da ns j).id < 0) = false := by simp; omega
        obtain ⟨cn, rfl⟩ : ∃ c : Nat, nc = c := ⟨nc.toNat, by omega⟩
        rw [Int.toNat_natCast] at E2
        have hlen2 : ((frL ns ls j).take cn).length = cn := by rw [List.length_take]; omega
        have hcn : cn ≤ (frL ns ls j).length := by omega
        have hwc : (frL ns ls j).length ≤ wc := hw.2.1
        obtain ⟨wb, wo, hwe, _, _⟩ := hw.2.2.2.2 (by omega)
        subst hwe
        have HW := hid (takeCap hw hcn (by simp))
        have H1 := hid E1
        have H2 := hid E2
        have H3 := hid E3
        have HL2 := hid hlen2
        have s1 : (0 : Int) ≤ (cn : Int) := by omega
        have s2 : (cn : Int) ≤ (wc : Int) := by omega
        have DW := hid (fun n => below_drewN KB.out n)
        clear E1 E2 E3 ho ho' hF EC BAD hw hfc hfm hidj hlen2
        generalize (da ns j).id = ID at *
        generalize hG : (frL ns ls j).length = G at *
        clear hG
        go_wp2_with fail
        go_quiet (fail)
        go_wp2
        go_ret3
        rw [H1.out, H2.out, H3.out, HL2.out]
        exact ⟨_, _, rfl, HW.out, DW.out _⟩

end Go.Proofs.Ytikalkigmnipiaa
