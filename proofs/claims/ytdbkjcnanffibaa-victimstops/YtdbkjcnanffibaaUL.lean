/-
  Contracts of victim: Choose.
-/
import Derived.Test.YtdbkjcnanffibaaUG
import Derived.Test.YtdbkjcnanffibaaUK
namespace Go.Proofs.Ytdbkjcnanffibaa
open Go.RowKit Go.Deep Go.Maps Go.Shelf
set_option linter.unusedVariables false
set_option linter.unusedSimpArgs false

/-- The best lease to end. -/
def bestL (l : List Qu) (ls : List Le) (p q : Int) : Option Le := greT (fun id => qfT l id l.length) (fun i => useT (lastL ls) i (lastL ls).length) p q (lastL ls) (lastL ls).length
def chsE (l : List Qu) (ls : List Le) (p q : Int) : Int := if readE l ls = 0 then (if chk p q = 0 then (if (bestL l ls p q).isSome = true then 0 else 8) else 1) else readE l ls
def chsT (l : List Qu) (ls : List Le) (p q : Int) : Int := if readE l ls = 0 ∧ chk p q = 0 then ((bestL l ls p q).getD le0).ta else 0
theorem OwnE.cellset {α : Type} {enc : α → List Value} {k : Nat} {e : TypeId} {base : Nat} {w : World} {v : Value} {n : Nat} {l : List α} (h : OwnE e k enc base w v n l) (ad : Addr) (u : Value) (hb : ad.block < base) : OwnE e k enc base (w.setCell ad u) v n l := by
  obtain ⟨h0, h1, h2⟩ := h
  refine ⟨h0, h1, ?_⟩
  rcases h2 with h2 | ⟨g, cap, cur, hv, hg, hh, r⟩
  · exact .inl h2
  · exact .inr ⟨g, cap, cur, hv, hg, (heap_setCell_other _ _ _ _ (by omega)).trans hh, r⟩
theorem ret2i {a b c d : Int} (h : a = c) (g : b = d) : Ending.returned (.tuple #[.int .i64 c, .int .i64 d]) = .returned (.tuple #[.int .i64 a, .int .i64 b]) := by rw [h, g]

set_option maxRecDepth 100000 in
set_option maxHeartbeats 4000000 in
theorem uchoose_any (a : Option Addr) (len cap : Nat) (l : List Qu) (b : Option Addr) (ln cp : Nat) (ls : List Le) (p1 p2 : Int) (w : World) (h : HoldsQ w a len cap l) (hok : ∀ q ∈ l, q.ok) (hl : HoldsL w b ln cp ls) (hlo : ∀ x ∈ ls, x.okB) (hn : ln * 80 ≤ 140737488355328) (hz : readE l ls = 0 → useErr (lastL ls) = 0) :
    Calls Try.prog 11 #[.slice a len cap, .slice b ln cp, .agg #[.int .i64 p1, .int .i64 p2]] w fun e w' => e = .returned (.tuple #[.int .i64 (chsT l ls p1 p2), .int .i64 (chsE l ls p1 p2)]) ∧ Below w.heap.size w w' := by
  have RD := hid (fun W (hW : Below w.heap.size w W) => uread_any a len cap l b ln cp ls W (h.below hW) hok ⟨hl.1.below hW, fun x hx => (hl.2 x hx).below hW⟩ hlo (by omega))
  have LA := hid (fun W (hW : Below w.heap.size w W) => lasting_any b ln cp ls W ⟨hl.1.below hW, fun x hx => (hl.2 x hx).below hW⟩ hn)
  have HC := hid hl.2
  have HLO := hid (fun x (hx : x ∈ lastL ls) => hlo x (lastL_mem hx))
  have CK := hid (fun W => check_any p1 p2 W)
  have B0 := hid ((Below.refl w.heap.size w).alloc (Nat.le_refl _) (.cells #[.int .i64 p1, .int .i64 p2] 32))
  have z0 : (w.alloc (.cells #[.int .i64 p1, .int .i64 p2] 32)).cell? ⟨w.heap.size, 0, none⟩ = some (.int .i64 p1) := by simp [go_sem]
  have z1 : (w.alloc (.cells #[.int .i64 p1, .int .i64 p2] 32)).cell? ⟨w.heap.size, 1, none⟩ = some (.int .i64 p2) := by simp [go_sem]
  clear h hok hl hlo
  by_cases e1 : readE l ls = 0
  case neg =>
    have E : Hid (chsE l ls p1 p2 = readE l ls) := by unfold Hid chsE; rw [if_neg e1]
    have T : Hid (chsT l ls p1 p2 = 0) := by unfold Hid chsT; rw [if_neg (fun h => e1 h.1)]
    have t : (readE l ls != 0) = true := by simpa using e1
    have E1 := hid e1
    clear e1 hz
    generalize readE l ls = RE at *
    go_enter Try.func11, Try.ntmps11
    go_wp2_with fail
    refine (RD.out _ B0.out).mono ?_
    rintro e w1 ⟨v1, rfl, o1, b1⟩
    have o2 : v1 = .agg #[.map none, .map none] := by
      rcases o1 with ⟨_, h⟩ | ⟨h, _⟩
      · exact h
      · exact absurd h E1.out
    subst o2
    have B1 := hid (B0.out.trans (b1.mono B0.out.size))
    clear o1 b1
    go_wp2_with fail
    go_ret2
    exact ⟨ret2i T.out E.out, B1.out.alloc B1.out.size _⟩
  have hz' := hid (hz e1)
  rw [e1] at RD
  by_cases e2 : chk p1 p2 = 0
  case neg =>
    have E : Hid (chsE l ls p1 p2 = 1) := by unfold Hid chsE; rw [if_pos e1, if_neg e2]
    have T : Hid (chsT l ls p1 p2 = 0) := by unfold Hid chsT; rw [if_neg (fun h => e2 h.2)]
    have t : (chk p1 p2 != 0) = true := by simpa using e2
    clear e1 e2 hz
    generalize chk p1 p2 = C at *
    go_enter Try.func11, Try.ntmps11
    go_wp2_with fail
    refine (RD.out _ B0.out).mono ?_
    rintro e w1 ⟨v1, rfl, o1, b1⟩
    have o2 : ∃ mq mu, v1 = .agg #[.map (some mq), .map (some mu)] := by
      rcases o1 with ⟨h, _⟩ | ⟨_, mq, mu, h, _⟩
      · exact absurd rfl h
      · exact ⟨mq, mu, h⟩
    obtain ⟨mq, mu, rfl⟩ := o2
    have B1 := hid (B0.out.trans (b1.mono B0.out.size))
    replace z0 := keepc b1 z0
    replace z1 := keepc b1 z1
    clear o1 b1
    have B2 := hid (B1.out.alloc B1.out.size (.cells #[.map (some mq), .map (some mu)] 64))
    have y0 := keepc ((Below.refl w1.heap.size w1).alloc (Nat.le_refl _) (.cells #[.map (some mq), .map (some mu)] 64)) z0
    have y1 := keepc ((Below.refl w1.heap.size w1).alloc (Nat.le_refl _) (.cells #[.map (some mq), .map (some mu)] 64)) z1
    go_wp2_with fail
    refine (CK.out _).mono ?_
    rintro e w2 ⟨rfl, b2⟩
    have B3 := hid (B2.out.trans (b2.mono B2.out.size))
    clear b2
    go_wp2_with fail
    go_ret2
    exact ⟨ret2i T.out E.out, B3.out⟩
  have t : (chk p1 p2 != 0) = false := by simpa using e2
  have E : Hid (chsE l ls p1 p2 = if (bestL l ls p1 p2).isSome = true then 0 else 8) := by unfold Hid chsE; rw [if_pos e1, if_pos e2]
  have T : Hid (chsT l ls p1 p2 = ((bestL l ls p1 p2).getD le0).ta) := by unfold Hid chsT; rw [if_pos ⟨e1, e2⟩]
  clear e1 e2 hz
  generalize chk p1 p2 = C at *
  go_enter Try.func11, Try.ntmps11
  go_wp2_with fail
  refine (RD.out _ B0.out).mono ?_
  rintro e w1 ⟨v1, rfl, o1, b1⟩
  have o2 : ∃ mq mu, v1 = .agg #[.map (some mq), .map (some mu)] ∧ QMp w1 mq l.length (fun id => qfT l id l.length) := by
    rcases o1 with ⟨h, _⟩ | ⟨_, mq, mu, h, _, _, h1, _⟩
    · exact absurd rfl h
    · exact ⟨mq, mu, h, h1⟩
  obtain ⟨mq, mu, rfl, hQ⟩ := o2
  have B1 := hid (B0.out.trans (b1.mono B0.out.size))
  replace z0 := keepc b1 z0
  replace z1 := keepc b1 z1
  have HSS : Hid (w.heap.size < w1.heap.size) := World.block_lt_of_cell? _ _ z0
  have HMQ := hid hQ.lt
  clear o1 b1
  have B2 := hid (B1.out.alloc B1.out.size (.cells #[.map (some mq), .map (some mu)] 64))
  have bA := (Below.refl w1.heap.size w1).alloc (Nat.le_refl _) (.cells #[.map (some mq), .map (some mu)] 64)
  replace z0 := keepc bA z0
  replace z1 := keepc bA z1
  have HQM := hid (hQ.below bA)
  have h0 : (w1.alloc (.cells #[.map (some mq), .map (some mu)] 64)).cell? ⟨w1.heap.size, 0, none⟩ = some (.map (some mq)) := by simp [go_sem]
  have h1 : (w1.alloc (.cells #[.map (some mq), .map (some mu)] 64)).cell? ⟨w1.heap.size, 1, none⟩ = some (.map (some mu)) := by simp [go_sem]
  have f1 : (w1.alloc (.cells #[.map (some mq), .map (some mu)] 64)).frozen? ⟨w1.heap.size, 1, none⟩ = false := by simp [go_sem]
  have HS := hid B1.out.size
  clear hQ bA
  go_wp2_with fail
  refine (CK.out _).mono ?_
  rintro e w2 ⟨rfl, b2⟩
  have B3 := hid (B2.out.trans (b2.mono B2.out.size))
  replace z0 := keepc b2 z0
  replace z1 := keepc b2 z1
  replace f1 := keepf b2 h1 f1
  replace h0 := keepc b2 h0
  replace h1 := keepc b2 h1
  replace HQM := hid (HQM.out.below b2)
  clear b2
  generalize hM : Array.size (World.heap w1) = M at *
  clear hM
  have HM2 : Hid (M < w2.heap.size) := World.block_lt_of_cell? _ _ h0
  go_wp2_with fail
  refine (LA.out _ B3.out).mono ?_
  rintro e w3 ⟨v3, rfl, o3, b3⟩
  have B4 := hid (B3.out.trans (b3.mono B3.out.size))
  replace z0 := keepc b3 z0
  replace z1 := keepc b3 z1
  replace f1 := keepf b3 h1 f1
  replace h0 := keepc b3 h0
  replace h1 := keepc b3 h1
  replace HQM := hid (HQM.out.below b3)
  obtain ⟨la_, lc, rfl⟩ := o3.form
  have H3 : Hid (HoldsL w3 la_ (lastL ls).length lc (lastL ls)) := ⟨o3.holds Le.cs_len, fun x hx => (HC.out x (lastL_mem hx)).below B4.out⟩
  have AD := hid (uadd_any la_ (lastL ls).length lc (lastL ls) w3 H3.out HLO.out)
  rw [hz'.out] at AD
  have O3 := hid o3
  clear o3 b3
  go_wp2_with fail
  refine AD.out.mono ?_
  rintro e w4 ⟨v4, rfl, o4, b4⟩
  have o5 : ∃ b, v4 = .map (some b) ∧ w3.heap.size ≤ b ∧ UM w4 b (lastL ls).length (fun q => hasT (lastL ls) q (lastL ls).length) (fun q => useT (lastL ls) q (lastL ls).length) := by
    rcases o4 with ⟨h, _⟩ | ⟨_, h⟩
    · exact absurd rfl h
    · exact h
  obtain ⟨mv, rfl, hlo, hU⟩ := o5
  have B5 := hid (B4.out.trans (b4.mono B4.out.size))
  replace z0 := keepc b4 z0
  replace z1 := keepc b4 z1
  replace f1 := keepf b4 h1 f1
  have hM3 : Hid (M < w3.heap.size) := World.block_lt_of_cell? _ _ h0
  replace h0 := keepc b4 h0
  replace h1 := keepc b4 h1
  replace HQM := hid (HQM.out.below b4)
  have H4 : Hid (HoldsL w4 la_ (lastL ls).length lc (lastL ls)) := H3.out.below b4
  have O4 := hid (O3.out.below b4)
  clear b4 o4 AD RD LA CK O3 H3 H4
  have m2 := HM2.out
  have ms := HSS.out
  have mq' := HMQ.out
  have m3 := hM3.out
  have k0 : (w4.setCell ⟨M, 1, none⟩ (.map (some mv))).cell? ⟨M, 0, none⟩ = some (.map (some mq)) := by simp [go_sem, h0, h1, f1]
  have k1 : (w4.setCell ⟨M, 1, none⟩ (.map (some mv))).cell? ⟨M, 1, none⟩ = some (.map (some mv)) := by simp [go_sem, h0, h1, f1]
  have q0 : (w4.setCell ⟨M, 1, none⟩ (.map (some mv))).cell? ⟨w.heap.size, 0, none⟩ = some (.int .i64 p1) := (World.cell?_setCell_far _ _ _ _ (by show M ≠ w.heap.size; omega)).trans z0
  have q1 : (w4.setCell ⟨M, 1, none⟩ (.map (some mv))).cell? ⟨w.heap.size, 1, none⟩ = some (.int .i64 p2) := (World.cell?_setCell_far _ _ _ _ (by show M ≠ w.heap.size; omega)).trans z1
  have B6 : Hid (Below w.heap.size w (w4.setCell ⟨M, 1, none⟩ (.map (some mv)))) := B5.out.setCell (by show w.heap.size ≤ M; omega) _
  have O6 := (O4.out.cellset ⟨M, 1, none⟩ (.map (some mv)) (by show M < _; exact m2))
  have H6 : HoldsL (w4.setCell ⟨M, 1, none⟩ (.map (some mv))) la_ (lastL ls).length lc (lastL ls) := ⟨O6.holds Le.cs_len, fun x hx => (HC.out x (lastL_mem hx)).below B6.out⟩
  have Q6 : QMp (w4.setCell ⟨M, 1, none⟩ (.map (some mv))) mq l.length (fun id => qfT l id l.length) := HQM.out.same (heap_setCell_other _ _ _ _ (by show mq ≠ M; omega))
  have U6 : UM (w4.setCell ⟨M, 1, none⟩ (.map (some mv))) mv (lastL ls).length (fun q => hasT (lastL ls) q (lastL ls).length) (fun q => useT (lastL ls) q (lastL ls).length) := hU.same (heap_setCell_other _ _ _ _ (by show mv ≠ M; omega))
  have GR := hid (greatest_any p1 p2 la_ (lastL ls).length lc (lastL ls) _ H6 HLO.out Q6 U6)
  clear H6 Q6 U6 O6 O4 HQM hU m2 ms mq' m3
  change Hid (Calls _ _ _ _ fun e w' => e = .returned (.tuple #[.agg (((bestL l ls p1 p2).getD le0).cs).toArray, .bool (bestL l ls p1 p2).isSome]) ∧ _) at GR
  generalize bestL l ls p1 p2 = o at *
  generalize hy : o.getD le0 = y at *
  have HY := hid hy
  clear hy
  go_wp2_with fail
  refine GR.out.mono ?_
  rintro e w5 ⟨rfl, b5⟩
  have B7 := hid (B6.out.trans (b5.mono B6.out.size))
  clear b5 GR
  obtain ⟨y1, y2, y3, ya, yl, yc, y5, y6, y7, y8, yo⟩ := y
  simp only [Le.cs] at *
  have B8 := hid (B7.out.alloc B7.out.size (.cells #[.int .i64 y1, .int .i64 y2, .int .i64 y3, .slice ya yl yc, .int .i64 y5, .int .i64 y6, .int .i64 y7, .bool y8] 38))
  rcases o with _ | o
  · have T2 : Hid (chsT l ls p1 p2 = 0) := by
      unfold Hid; rw [T.out]
      have := HY.out
      simp only [Option.getD_none, le0] at this
      cases this
      rfl
    go_wp2_with fail
    go_ret2
    exact ⟨ret2i T2.out E.out, B8.out⟩
  · go_wp2_with fail
    go_ret2
    exact ⟨ret2i T.out E.out, B8.out⟩
end Go.Proofs.Ytdbkjcnanffibaa
