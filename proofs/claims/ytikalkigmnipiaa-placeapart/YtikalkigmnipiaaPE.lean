/-
  Contracts of place: a room's take.
-/
import Derived.Test.YtikalkigmnipiaaPD
import Derived.Deep.CutBlock
import Derived.Deep.DeepCutAuto
import Derived.Deep.RegionHeld3
namespace Go.Proofs.Ytikalkigmnipiaa
open Go.RowKit Go.Deep Go.Maps Go.Shelf
set_option linter.unusedVariables false
set_option linter.unusedSimpArgs false

theorem rop_zero {a b c d : Int} (hr : okp a ∧ okp b) : (rop (a, b) (c, d) (a - c, b - d) = ((a - c, b - d), 0) ∧ (okp c ∧ okp d) ∧ (okp (a - c) ∧ okp (b - d))) ∨ ((rop (a, b) (c, d) (a - c, b - d)).2 ≠ 0 ∧ ¬ ((okp c ∧ okp d) ∧ (okp (a - c) ∧ okp (b - d)))) := by
  have h1 : okv (a, b) = true := by simpa [okv] using hr
  unfold rop rin
  by_cases h2 : okv (c, d) = true
  · rw [if_pos ⟨h1, h2⟩]
    by_cases h3 : okv (a - c, b - d) = true
    · rw [if_pos h3]; exact .inl ⟨rfl, okv_true h2, okv_true h3⟩
    · rw [if_neg h3]; refine .inr ⟨by decide, fun h => h3 ?_⟩; simpa [okv] using h.2
  · rw [if_neg (fun h => h2 h.2)]; refine .inr ⟨by decide, fun h => h2 ?_⟩; simpa [okv] using h.1

theorem drop_na {l : List Int} {k : Nat} (h : k < l.length) : l.drop k = na l k :: l.drop (k + 1) := by
  rw [List.drop_eq_getElem_cons h]
  unfold na
  rw [List.getElem?_eq_getElem h]
  rfl
theorem take_na {l : List Int} {k : Nat} (h : k < l.length) : l.take (k + 1) = l.take k ++ [na l k] := by rw [List.take_add_one, na_get h]; rfl

/-- A lease's block behind the first region of take. -/
def CutT (w wx : World) (sa : Option Addr) (sl sc : Nat) (X Y E : Int) (v u : Value) : Prop := ∃ B, v = .pointer (some ⟨B, 0, none⟩) ∧ u = .int .i64 E ∧ w.heap.size < B ∧ wx.cell? ⟨B, 0, none⟩ = some (.int .i64 X) ∧ wx.cell? ⟨B, 1, none⟩ = some (.int .i64 Y) ∧ wx.cell? ⟨w.heap.size, 3, none⟩ = some (.slice sa sl sc) ∧ Below w.heap.size w wx

set_option maxRecDepth 100000 in
set_option maxHeartbeats 4000000 in
theorem take_one (g o : Nat) (r : Rm) (x : Le) (w : World) (hr : w.rangeAt g o r.cs) (hf : ∀ j, w.frozen? ⟨g, j, none⟩ = false) (hg : g < w.heap.size) (hx : HoldsN w x.sa x.sl x.sc x.co) (hne : ∀ b o', x.sa = some ⟨b, o', none⟩ → 0 < x.sl → b ≠ g) (hn : r.nd.co ≤ 64) (hfr : okp r.fc ∧ okp r.fm) :
    Calls Try.prog 59 #[.pointer (some ⟨g, o, none⟩), .agg x.cs.toArray] w fun e w' => e = .returned (.bool (takeB r x.z)) ∧ ∃ r' : Rm, Tk g o w w' r' ∧ (takeB r x.z = true → r' = rmT r x.z) := by
  obtain ⟨x1, x2, x3, sa, sl, sc, x5, x6, x7, x8, co⟩ := x
  have HX := hid hx
  have HL := hid hx.1
  have hcap := hx.2.1
  have hcm := hx.2.2.1
  have HN := hid hne
  have HCO := hid hn
  have TE : Hid (takeB r ⟨x3, x5, co⟩ = (decide (okp (sl : Int) ∧ okp x5) && decide (okp (r.fc - sl) ∧ okp (r.fm - x5)) && chB r.tk r.nd.co (-1) co)) := by unfold Hid takeB; rw [HL.out]
  have TR : Hid (rmT r ⟨x3, x5, co⟩ = ⟨r.nd, fun c => r.tk c || hasN co c, r.fc - sl, r.fm - x5⟩) := by unfold Hid rmT; rw [HL.out]
  have k1 := hr 69 _ r.at_fc
  have k2 := hr 70 _ r.at_fm
  have SB := hid (fun W => vsub_any r.fc r.fm (sl : Int) x5 W)
  obtain ⟨RR, hRR⟩ : ∃ R, R = rop (r.fc, r.fm) ((sl : Int), x5) (r.fc - sl, r.fm - x5) := ⟨_, rfl⟩
  have RZ := hid (rop_zero (c := (sl : Int)) (d := x5) hfr)
  rw [← hRR] at SB RZ
  have RS := hid (fun W hb => Tk.start (w' := W) hr hf hg hb)
  clear hRR hx hfr hne hn
  obtain ⟨FC, hFC⟩ : ∃ x, r.fc = x := ⟨_, rfl⟩
  obtain ⟨FM, hFM⟩ : ∃ x, r.fm = x := ⟨_, rfl⟩
  have HFC := hid hFC
  have HFM := hid hFM
  rw [hFC] at SB RZ TE TR k1
  rw [hFM] at SB RZ TE TR k2
  have EF : Hid (∀ X Y, r.cs.set 69 (.int .i64 X) = (⟨r.nd, r.tk, X, r.fm⟩ : Rm).cs ∧ (⟨r.nd, r.tk, X, r.fm⟩ : Rm).cs.set 70 (.int .i64 Y) = (⟨r.nd, r.tk, X, Y⟩ : Rm).cs) := fun X Y => ⟨(r.set_fc X).symm, (Rm.set_fm ⟨r.nd, r.tk, X, r.fm⟩ Y).symm⟩
  have HF := hid hf
  clear hFC hFM hr hf
  have GE : g ≠ w.heap.size := by omega
  have GG := hid hg
  obtain ⟨⟨X, Y⟩, E⟩ := RR
  have q1 := keepc (W := w) (w1 := (w.alloc (.cells #[.int .i64 x1, .int .i64 x2, .int .i64 x3, .slice sa sl sc, .int .i64 x5, .int .i64 x6, .int .i64 x7, .bool x8] 43))) ((Below.refl _ w).alloc (Nat.le_refl _) _) k1
  have q2 := keepc (W := w) (w1 := (w.alloc (.cells #[.int .i64 x1, .int .i64 x2, .int .i64 x3, .slice sa sl sc, .int .i64 x5, .int .i64 x6, .int .i64 x7, .bool x8] 43))) ((Below.refl _ w).alloc (Nat.le_refl _) _) k2
  have l3 : (w.alloc (.cells #[.int .i64 x1, .int .i64 x2, .int .i64 x3, .slice sa sl sc, .int .i64 x5, .int .i64 x6, .int .i64 x7, .bool x8] 43)).cell? ⟨w.heap.size, 3, none⟩ = some (.slice sa sl sc) := by simp [go_sem]
  have l4 : (w.alloc (.cells #[.int .i64 x1, .int .i64 x2, .int .i64 x3, .slice sa sl sc, .int .i64 x5, .int .i64 x6, .int .i64 x7, .bool x8] 43)).cell? ⟨w.heap.size, 4, none⟩ = some (.int .i64 x5) := by simp [go_sem]
  have BW : Below w.heap.size w (w.alloc (.cells #[.int .i64 x1, .int .i64 x2, .int .i64 x3, .slice sa sl sc, .int .i64 x5, .int .i64 x6, .int .i64 x7, .bool x8] 43)) := (Below.refl _ w).alloc (Nat.le_refl _) _
  have hB1 := hid BW
  clear BW k1 k2
  show Calls Try.prog 59 #[.pointer (some ⟨g, o, none⟩), .agg #[.int .i64 x1, .int .i64 x2, .int .i64 x3, .slice sa sl sc, .int .i64 x5, .int .i64 x6, .int .i64 x7, .bool x8]] w _
  go_enter Try.func59, Try.ntmps59
  go_upto_region 1 with fail
  generalize hw1 : (w.alloc (.cells #[.int .i64 x1, .int .i64 x2, .int .i64 x3, .slice sa sl sc, .int .i64 x5, .int .i64 x6, .int .i64 x7, .bool x8] 43)) = w1 at *
  have hs1 : w1.heap.size = w.heap.size + 1 := by rw [← hw1]; simp
  clear hw1
  have hg1 : g < w1.heap.size := by have := GG.out; omega
  have hg2 : g < w1.heap.size + 1 := by omega
  have hg3 : w.heap.size < w1.heap.size + 1 := by omega
  have hg4 : w.heap.size < w1.heap.size := by omega
  have HS1 := hid hs1
  clear hs1
  have n1 : w1.heap.size ≠ g := by omega
  have n2 : w1.heap.size ≠ w.heap.size := by omega
  have ka := fun o => ((Below.refl w1.heap.size w1).drew).alloc (Nat.le_refl _) o
  go_cut [5, 6] (fun v u wx => CutT w wx sa sl sc X Y E v u)
  case first =>
    go_region_held3 (fun w' => w'.cell? ⟨g, o + 69, none⟩ = some (.int .i64 FC) ∧ w'.cell? ⟨g, o + 70, none⟩ = some (.int .i64 FM) ∧ w'.cell? ⟨w.heap.size, 3, none⟩ = some (.slice sa sl sc) ∧ w'.cell? ⟨w.heap.size, 4, none⟩ = some (.int .i64 x5)) (first | exact ⟨q1, q2, l3, l4⟩ | exact ⟨p1, p2, p3, p4⟩ | exact ⟨keepc (ka _) q1, keepc (ka _) q2, keepc (ka _) l3, keepc (ka _) l4⟩ | exact ⟨keepc (kc _) p1, keepc (kc _) p2, keepc (kc _) p3, keepc (kc _) p4⟩ | exact ⟨keepc (kc _) p1, keepc (kc _) p2, keepc (kc _) p3, keepc (kc _) p4⟩ | go_keep)
      (first | (go_at_call 79; refine (SB.out _).mono ?_; rintro e w' ⟨rfl, bs⟩; have kb : Below w1.heap.size w1 w' := Below.trans (by first | exact (Below.refl _ w1).drew | exact ka _) (bs.mono (by simp)); have kc := (fun o => (Below.refl w'.heap.size w').alloc (Nat.le_refl _) o); have p1 := keepc kb q1; have p2 := keepc kb q2; have p3 := keepc kb l3; have p4 := keepc kb l4; have n3 := World.new_ne w' _ p1; have n4 := World.new_ne w' _ p3; have kd : Below w.heap.size w w' := hB1.out.trans (kb.mono hB1.out.size); obtain ⟨bc, bf⟩ := bcell bs))
    all_goals
      go_wp2_with fail
      go_meet
      refine ⟨_, rfl, rfl, ?_, ?_, ?_, ?_, ?_⟩
      · first | omega | (have := kd.size; have := HS1.out; have := kb.size; omega)
      · simp [go_sem, bc, bf]
      · simp [go_sem, bc, bf]
      · first | exact p3 | (simp [*, World.cell?_alloc_some, World.cell?_setCell_far])
      · have := HS1.out
        have := kb.size
        repeat (first | assumption | refine Below.setCell ?_ ?_ _ | refine Below.alloc ?_ ?_ _)
        all_goals first | assumption | (show w.heap.size ≤ _; omega) | (simp; omega)
  case rest =>
    obtain ⟨B, rfl, rfl, hB, c0, c1, c3, hBx⟩ := hcut
    have T0 := hid (RS.out wc hBx)
    clear q1 q2 l3 l4 hg1 hg2 hg3 hg4 HS1 ka n1 n2 SB hB1
    rcases RZ.out with ⟨hz, h1, h2⟩ | ⟨hz, hno⟩
    · simp only [Prod.mk.injEq] at hz
      obtain ⟨⟨rfl, rfl⟩, rfl⟩ := hz
      rw [decide_eq_true h1, decide_eq_true h2, Bool.true_and, Bool.true_and] at TE
      clear h1 h2 RZ
      have k1 := T0.out.at' 69 _ r.at_fc
      have k2 := T0.out.at' 70 _ r.at_fm
      have f1 := T0.out.fz (o + 69)
      have f2 := T0.out.fz (o + 70)
      generalize (FC - (sl : Int)) = X at *
      generalize (FM - x5) = Y at *
      have T2 := hid ((T0.out.put (i := 69) (v := .int .i64 X) (by omega) (EF.out X Y).1.symm).put (i := 70) (v := .int .i64 Y) (by omega) (EF.out X Y).2.symm)
      have d3 := T2.out.but.trans (But.refl _ _)
      have d4 : ((wc.setCell ⟨g, o + 69, none⟩ (.int .i64 X)).setCell ⟨g, o + 70, none⟩ (.int .i64 Y)).cell? ⟨w.heap.size, 3, none⟩ = some (.slice sa sl sc) := by
        rw [World.cell?_setCell_other _ _ _ _ (by intro e; injection e with e1 e2; omega), World.cell?_setCell_other _ _ _ _ (by intro e; injection e with e1 e2; omega)]; exact c3
      clear d3 hBx T0
      go_wp2_with fail
      generalize ((wc.setCell ⟨g, o + 69, none⟩ (.int .i64 X)).setCell ⟨g, o + 70, none⟩ (.int .i64 Y)) = w2 at *
      clear k1 k2 f1 f2 c0 c1 c3 EF
      go_loopw [33, 7] (fun i x wr => ∃ (k : Nat) (ah : Int), k ≤ sl ∧ i = .int .i64 (k : Int) ∧ x = .int .i64 ah ∧ -1 ≤ ah ∧ Hid (chB r.tk r.nd.co (-1) co = chB r.tk r.nd.co ah (co.drop k)) ∧ Hid (∀ y ∈ co.take k, y ≤ ah) ∧ Hid (Tk g o w wr ⟨r.nd, fun c => r.tk c || hasN (co.take k) c, X, Y⟩)) (fun i _ _ => sl - (intOf i).toNat)
      case atStart =>
        refine ⟨0, -1, by omega, rfl, rfl, by omega, rfl, fun y hy => by simp at hy, ?_⟩
        have e : (⟨r.nd, fun c => r.tk c || hasN (co.take 0) c, X, Y⟩ : Rm) = ⟨r.nd, r.tk, X, Y⟩ := by simp [hasN]
        rw [e]; exact T2
      case round =>
        obtain ⟨k, ah, hk, rfl, rfl, hah, hgo, hle, hT⟩ := hrel
        by_cases hlt : k < sl
        · obtain ⟨cb, cof, rfl, R⟩ := HX.out.rowA (by omega)
          have cne := HN.out cb cof rfl (by show 0 < sl; omega)
          have q0 := hT.out.but.cell (R k hlt) cne
          have hlt' : k < co.length := by rw [HL.out]; exact hlt
          have NX : Hid (chB r.tk r.nd.co (-1) co = (!(decide (na co k ≤ ah)) && !(decide (r.nd.co ≤ na co k)) && !(r.tk (na co k).toNat) && chB r.tk r.nd.co (na co k) (co.drop (k + 1)))) := by unfold Hid; rw [hgo.out, drop_na hlt']; rfl
          have TKN := hid (take_na hlt')
          have q1 := hT.out.at' 1 _ (Rm.at_co _)
          have ka : (0 : Int) ≤ (k : Int) := by omega
          have kb : (k : Int) < (sl : Int) := by omega
          clear R cne d4 T2
          generalize na co k = c at *
          obtain ⟨N, hN⟩ : ∃ x, r.nd.co = x := ⟨_, rfl⟩
          simp only [hN] at q1
          by_cases g1 : c ≤ ah
          · have NO : Hid (takeB r ⟨x3, x5, co⟩ = false) := by unfold Hid; rw [TE.out, NX.out]; simp [g1]
            have t1 : decide (c ≤ ah) = true := by simpa using g1
            clear NX TE hgo hle TKN hN
            go_wp2_with fail
            go_ret
            exact ⟨retb NO.out.symm, _, hT.out, fun h => absurd (show takeB r ⟨x3, x5, co⟩ = true from h) (by rw [NO.out]; simp)⟩
          obtain ⟨m, rfl⟩ : ∃ m : Nat, c = m := ⟨c.toNat, by omega⟩
          have t1 : decide ((m : Int) ≤ ah) = false := by simpa using g1
          by_cases g2 : N ≤ (m : Int)
          · have NO : Hid (takeB r ⟨x3, x5, co⟩ = false) := by unfold Hid; rw [TE.out, NX.out, hN]; simp [g2]
            have t2 : decide (N ≤ (m : Int)) = true := by simpa using g2
            clear NX TE hgo hle TKN hN
            go_wp2_with fail
            go_ret
            exact ⟨retb NO.out.symm, _, hT.out, fun h => absurd (show takeB r ⟨x3, x5, co⟩ = true from h) (by rw [NO.out]; simp)⟩
          have t2 : decide (N ≤ (m : Int)) = false := by simpa using g2
          have h64 := HCO.out
          have m64 : m < 64 := by omega
          have m0 : (0 : Int) ≤ (m : Int) := by omega
          have m6 : (m : Int) < 64 := by omega
          have NH : hasN (co.take k) (m : Int) = false := by
            cases e : hasN (co.take k) (m : Int)
            · rfl
            · have := hle.out _ (hasN_iff.1 e); omega
          have q2 := hT.out.at' (5 + m) _ (Rm.at_tk _ m m64)
          have f2 := hT.out.fz (o + 5 + m)
          rw [← Nat.add_assoc] at q2
          simp only [NH, Bool.or_false] at q2
          rw [Int.toNat_natCast] at NX
          by_cases g3 : r.tk m = true
          · have NO : Hid (takeB r ⟨x3, x5, co⟩ = false) := by unfold Hid; rw [TE.out, NX.out]; simp [g3]
            rw [g3] at q2
            clear NX TE hgo hle TKN hN h64 NH g3
            go_wp2_with fail
            go_ret
            exact ⟨retb NO.out.symm, _, hT.out, fun h => absurd (show takeB r ⟨x3, x5, co⟩ = true from h) (by rw [NO.out]; simp)⟩
          · have g3' : r.tk m = false := by simpa using g3
            rw [g3'] at q2
            have YES : Hid (chB r.tk r.nd.co (-1) co = chB r.tk r.nd.co (m : Int) (co.drop (k + 1))) := by unfold Hid; rw [NX.out, hN, t1, t2, g3']; simp
            have LE : Hid (∀ y ∈ co.take (k + 1), y ≤ (m : Int)) := by
              intro y hy
              rw [TKN.out] at hy
              rcases List.mem_append.1 hy with h | h
              · have := hle.out y h; omega
              · simp at h; omega
            have T3 : Hid (Tk g o w (wr.setCell ⟨g, o + 5 + m, none⟩ (.bool true)) ⟨r.nd, fun c => r.tk c || hasN (co.take (k + 1)) c, X, Y⟩) := by
              have h := hT.out.put (r' := ⟨r.nd, fun c => r.tk c || hasN (co.take (k + 1)) c, X, Y⟩) (i := 5 + m) (v := .bool true) (by omega) ?_
              · rwa [← Nat.add_assoc] at h
              · rw [← Rm.set_tk _ m m64]
                congr 1
                rw [TKN.out]
                congr 1
                funext c
                rw [hasN_append, Bool.or_assoc]
                congr 2
                by_cases e : c = m
                · subst e; simp [hasN]
                · have e2 : ¬ ((m : Int) = (c : Int)) := by omega
                  simp [hasN, e, e2]
            clear NX TE hgo hle TKN hN h64 NH g3 g3' hT
            go_wp2_with fail
            go_roundw
            case rel => exact ⟨k + 1, (m : Int), by omega, by go_num, rfl, by omega, YES, LE, T3⟩
            case measure => simp [intOf]; omega
        · have tk : co.take k = co := List.take_of_length_le (by rw [HL.out]; omega)
          have dk : co.drop k = [] := List.drop_eq_nil_of_le (by rw [HL.out]; omega)
          have YES : Hid (takeB r ⟨x3, x5, co⟩ = true) := by unfold Hid; rw [TE.out, hgo.out, dk]; rfl
          rw [tk] at hT
          clear TE hgo hle d4 T2
          go_wp2
          go_ret
          exact ⟨retb YES.out.symm, _, hT.out, fun _ => TR.out.symm⟩
    · have t : (E != 0) = true := by simpa using hz
      have NO : Hid (takeB r ⟨x3, x5, co⟩ = false) := by
        unfold Hid; rw [TE.out]
        by_cases e1 : okp (sl : Int) ∧ okp x5
        · have e2 : ¬ (okp (FC - sl) ∧ okp (FM - x5)) := fun h => hno ⟨e1, h⟩
          rw [decide_eq_false e2]; simp
        · rw [decide_eq_false e1]; simp
      clear hz hno RZ TE
      go_wp2
      go_ret
      exact ⟨retb NO.out.symm, _, T0.out, fun h => absurd (show takeB r ⟨x3, x5, co⟩ = true from h) (by rw [NO.out]; simp)⟩

end Go.Proofs.Ytikalkigmnipiaa
