/-
  Contracts of strip: Mend.
-/
import Derived.Test.YtmdhcigkhapolabSN
import Derived.Deep.DeepCutAuto
import Derived.Deep.CutBlock
namespace Go.Proofs.Ytmdhcigkhapolab
open Go.RowKit Go.Deep
set_option linter.unusedVariables false

/-- What stands behind the two weights. -/
def TwoA (w wx : World) (base g m : Nat) (p : List Int) (x y z t : Int) (v u : Value) : Prop := ∃ P R : Nat, v = .pointer (some ⟨P, 0, none⟩) ∧ u = .pointer (some ⟨R, 0, none⟩) ∧
  (wx.cell? ⟨P, 0, none⟩ = some (.int .i64 x) ∧ wx.cell? ⟨P, 1, none⟩ = some (.int .i64 y)) ∧ (wx.cell? ⟨R, 0, none⟩ = some (.int .i64 z) ∧ wx.cell? ⟨R, 1, none⟩ = some (.int .i64 t)) ∧ Row base wx g m m p ∧ Below base w wx

/-- What is mended: of m bytes and four more; of all. -/
def gapU (L : List Int) (m : Nat) : Int := (L[m]?.getD 0 * 256 + L[m + 1]?.getD 0 - P1 (L.take m) + 65521) % 65521
def gapV (L : List Int) (m : Nat) : Int := (L[m + 2]?.getD 0 * 256 + L[m + 3]?.getD 0 - P2 (L.take m) + 65521) % 65521
def mdM (L : List Int) (m : Nat) : List Int × Int × Int :=
  if P1 (L.take m) = L[m]?.getD 0 * 256 + L[m + 1]?.getD 0 ∧ P2 (L.take m) = L[m + 2]?.getD 0 * 256 + L[m + 3]?.getD 0 then (L.take m, -1, 0)
  else if P2 (L.take m) = L[m + 2]?.getD 0 * 256 + L[m + 3]?.getD 0 then (L.take m, (m : Int), 0)
  else if P1 (L.take m) = L[m]?.getD 0 * 256 + L[m + 1]?.getD 0 then (L.take m, (m : Int) + 2, 0)
  else if rpO (rp (L.take m) (gapU L m) (gapV L m)) = true then (rpL (L.take m) (rp (L.take m) (gapU L m) (gapV L m)), rpI (rp (L.take m) (gapU L m) (gapV L m)), 0) else ([], 0, 6)
def md (L : List Int) : List Int × Int × Int := if L.length < 4 then ([], 0, 5) else if 60004 < L.length then ([], 0, 3) else mdM L (L.length - 4)

theorem retsE {v : Value} {k n : IntKind} {a b : Int} {R : List Int × Int × Int} {l : List Int} (h : R = (l, a, b)) : Ending.returned (.tuple #[v, .int k a, .int n b]) = .returned (.tuple #[v, .int k R.2.1, .int n R.2.2]) := by rw [h]

set_option maxRecDepth 100000 in
set_option maxHeartbeats 8000000 in
theorem mend_main (b off m cap : Nat) (L : List Int) (w : World) (h : HoldsB w (some ⟨b, off, none⟩) (m + 4) cap L) (hm : m ≤ 60000) (R : List Int × Int × Int) (HM : Hid (R = mdM L m)) :
    Calls Try.prog 29 #[.slice (some ⟨b, off, none⟩) (m + 4) cap] w fun e w' => ∃ v, e = .returned (.tuple #[v, .int .i64 R.2.1, .int .i64 R.2.2]) ∧ Own w.heap.size w' v R.1.length R.1 ∧ Below w.heap.size w w' := by
  have hcap := h.2.2.1
  have hcx := h.2.2.2.1
  have HT : Hid (HoldsB w (some ⟨b, off, none⟩) m cap (L.take m)) := by
    obtain ⟨h1, h2, h3, h4, h5, h6, h7⟩ := h
    refine ⟨by simp [h1], by omega, by omega, by omega, h5.take m, fun e => by simp at e, fun hp => ?_⟩
    obtain ⟨b', off', e, hc⟩ := h7 (by omega)
    cases e
    exact ⟨b, off, rfl, fun j hj => by rw [hc j (by omega), List.getElem?_take_of_lt hj]⟩
  have t1 : decide ((m : Int) + 4 < 4) = false := by simp; omega
  have t2 : decide (60004 < (m : Int) + 4) = false := by simp; omega
  have hne : ¬ cap = m := by omega
  have k1 : (0 : Int) ≤ (m : Int) := by omega
  have k2 : (m : Int) ≤ ((m + 4 : Nat) : Int) := by omega
  have k3 : ((m + 4 : Nat) : Int) ≤ (cap : Int) := by omega
  have k4 : (m : Int) ≤ (m : Int) + 4 := by omega
  have k5 : (m : Int) + 4 ≤ (cap : Int) := by omega
  go_enter Try.func29, Try.ntmps29
  go_wp2_with fail
  refine (room_any _ m cap 0 _ (by simp) _ _ HT.out (by omega)).mono ?_
  rintro e w1 ⟨g, rfl, h1, b1⟩
  go_upto_region 7 with fail
  have C1 : Hid (∀ W, Below w1.heap.size w1 W → Calls Try.prog 41 #[.slice (some ⟨g, 0, none⟩) m m] W fun e w' => e = .returned (.agg #[.int .i64 (P1 (L.take m)), .int .i64 (P2 (L.take m))]) ∧ (W.alloc (.cells #[.int .i64 (P1 (L.take m)), .int .i64 (P2 (L.take m))] 59)).alloc (.cells #[.int .i64 (P1 (L.take m)), .int .i64 (P2 (L.take m))] 59) = w') := fun W hW => by
    have hh := h1.holds.below hW
    exact weigh_x _ m m _ W hh.1 hm hh.2.2.2.2.1 hh.2.2.2.2.2.2
  obtain ⟨r, hr⟩ : ∃ r, r = P1 (L.take m) := ⟨_, rfl⟩
  obtain ⟨s, hs⟩ : ∃ s, s = P2 (L.take m) := ⟨_, rfl⟩
  rw [← hr, ← hs] at C1
  have C2 : Hid (∀ W, Below w1.heap.size w1 W → Calls Try.prog 43 #[.slice (some ⟨b, off + m, none⟩) 4 (cap - m)] W fun e w' => e = .returned (.agg #[.int .i64 (L[m]?.getD 0 * 256 + L[m + 1]?.getD 0), .int .i64 (L[m + 2]?.getD 0 * 256 + L[m + 3]?.getD 0)]) ∧ ((W.alloc (.cells #[.int .i64 (L[m]?.getD 0 * 256 + L[m + 1]?.getD 0), .int .i64 (L[m + 2]?.getD 0 * 256 + L[m + 3]?.getD 0)] 59)).alloc (.cells #[.int .i64 (L[m]?.getD 0 * 256 + L[m + 1]?.getD 0), .int .i64 (L[m + 2]?.getD 0 * 256 + L[m + 3]?.getD 0)] 59)).drew.drew.drew.drew = w') := fun W hW => by
    have hh := (h.below b1).below hW
    obtain ⟨b', off', e, hc⟩ := hh.2.2.2.2.2.2 (by omega)
    cases e
    refine rdw_x b (off + m) (cap - m) _ _ _ _ W (fun x hx => ?_) (hc m (by omega)) (hc (m + 1) (by omega)) (hc (m + 2) (by omega)) (hc (m + 3) (by omega))
    simp at hx
    rcases hx with rfl | rfl | rfl | rfl
    · exact h.2.2.2.2.1.getD _
    · exact h.2.2.2.2.1.getD _
    · exact h.2.2.2.2.1.getD _
    · exact h.2.2.2.2.1.getD _
  obtain ⟨z, hz⟩ : ∃ z, z = L[m]?.getD 0 * 256 + L[m + 1]?.getD 0 := ⟨_, rfl⟩
  obtain ⟨t, ht⟩ : ∃ t, t = L[m + 2]?.getD 0 * 256 + L[m + 3]?.getD 0 := ⟨_, rfl⟩
  rw [← hz, ← ht] at C2
  have rs := P_bd (L.take m)
  rw [← hr, ← hs] at rs
  have zb : 0 ≤ z ∧ z < 65536 := by
    have := h.2.2.2.2.1.getD m
    have := h.2.2.2.2.1.getD (m + 1)
    omega
  have tb : 0 ≤ t ∧ t < 65536 := by
    have := h.2.2.2.2.1.getD (m + 2)
    have := h.2.2.2.2.1.getD (m + 3)
    omega
  have HL : Hid ((L.take m).length = m) := by unfold Hid; rw [List.length_take, h.1]; omega
  have MM : Hid (R = if r = z ∧ s = t then (L.take m, -1, 0) else if s = t then (L.take m, (m : Int), 0) else if r = z then (L.take m, (m : Int) + 2, 0)
      else if rpO (rp (L.take m) ((z - r + 65521) % 65521) ((t - s + 65521) % 65521)) = true then (rpL (L.take m) (rp (L.take m) ((z - r + 65521) % 65521) ((t - s + 65521) % 65521)), rpI (rp (L.take m) ((z - r + 65521) % 65521) ((t - s + 65521) % 65521)), 0) else ([], 0, 6)) := by
    unfold Hid
    rw [HM.out]
    unfold mdM gapU gapV
    rw [← hr, ← hs, ← hz, ← ht]
  clear HM
  have HR := hid hr; have HS := hid hs; have HZ := hid hz; have HTT := hid ht
  have HH := hid h
  have hw1 := b1.size
  clear hr hs hz ht h
  go_cut [7, 8] (fun v u wx => TwoA w wx w.heap.size g m (L.take m) r s z t v u)
  case first =>
    go_region_held3 (fun w' => True) (trivial)
      (first
      | (go_at_call 41; refine (C1.out _ (by repeat (first | exact Below.refl _ _ | assumption | refine Below.alloc ?_ (by simp <;> omega) _ | refine Below.setCell ?_ (by simp <;> omega) _ | refine Below.drew ?_ | refine below_drewN ?_ _))).mono ?_; rintro e w' ⟨rfl, rfl⟩)
      | (go_at_call 43; refine (C2.out _ (by repeat (first | exact Below.refl _ _ | assumption | refine Below.alloc ?_ (by simp <;> omega) _ | refine Below.setCell ?_ (by simp <;> omega) _ | refine Below.drew ?_ | refine below_drewN ?_ _))).mono ?_; rintro e w' ⟨rfl, rfl⟩))
    all_goals
      go_wp2_with fail
      go_meet
      refine ⟨_, _, rfl, rfl, ⟨?_, ?_⟩, ⟨?_, ?_⟩, ?_, ?_⟩
      · simp [go_sem]
      · simp [go_sem]
      · simp [go_sem]
      · simp [go_sem]
      · exact h1.below (by repeat (first | exact Below.refl _ _ | assumption | refine Below.alloc ?_ (by simp <;> omega) _ | refine Below.setCell ?_ (by simp <;> omega) _ | refine Below.drew ?_ | refine below_drewN ?_ _))
      · exact b1.trans (Below.mono (B := w1.heap.size) (by repeat (first | exact Below.refl _ _ | assumption | refine Below.alloc ?_ (by simp <;> omega) _ | refine Below.setCell ?_ (by simp <;> omega) _ | refine Below.drew ?_ | refine below_drewN ?_ _)) hw1)
  case rest =>
    clear h1 b1 hw1 C1 C2 HT HH HR HS HZ HTT
    obtain ⟨P, R', rfl, rfl, ⟨f0, f1⟩, ⟨g0, g1⟩, hrow, hB⟩ := hcut
    obtain ⟨r0, r1, s0, s1⟩ := rs
    obtain ⟨z0, z1⟩ := zb
    obtain ⟨t0, t1⟩ := tb
    generalize L.take m = p at *
    have DR := hid (fun k => hrow.below (below_drewN (Below.refl _ wc) k))
    have DB := hid (fun k => below_drewN hB k)
    by_cases c1 : r = z
    · have q1 : (r == z) = true := by simp [c1]
      by_cases c2 : s = t
      · have q2 : (s == t) = true := by simp [c2]
        have E := MM.out
        rw [if_pos ⟨c1, c2⟩] at E
        have EE := hid E
        clear E c1 c2 hrow hB
        go_wp2_with fail
        go_quiet (fail)
        go_wp2
        go_ret3
        exact ⟨_, retsE EE.out, by rw [EE.out, HL.out]; exact (DR.out _).own, DB.out _⟩
      · have q2 : (s == t) = false := by simp [c2]
        have E := MM.out
        rw [if_neg (fun h => c2 h.2), if_neg c2, if_pos c1] at E
        have EE := hid E
        clear E c1 c2 hrow hB
        go_wp2_with fail
        go_quiet (fail)
        go_wp2
        go_ret3
        exact ⟨_, retsE EE.out, by rw [EE.out, HL.out]; exact (DR.out _).own, DB.out _⟩
    · have q1 : (r == z) = false := by simp [c1]
      by_cases c2 : s = t
      · have q2 : (s == t) = true := by simp [c2]
        have E := MM.out
        rw [if_neg (fun h => c1 h.1), if_pos c2] at E
        have EE := hid E
        clear E c1 c2 hrow hB
        go_wp2_with fail
        go_quiet (fail)
        go_wp2
        go_ret3
        exact ⟨_, retsE EE.out, by rw [EE.out, HL.out]; exact (DR.out _).own, DB.out _⟩
      · have q2 : (s == t) = false := by simp [c2]
        have E := MM.out
        rw [if_neg (fun h => c1 h.1), if_neg c2, if_neg c1] at E
        clear c1 c2 hrow hB MM
        have u0 : 0 ≤ (z - r + 65521) % 65521 := by omega
        have u1 : (z - r + 65521) % 65521 < 65521 := by omega
        have RPA := hid (fun W (hW : Row w.heap.size W g m m p) => repair_any w.heap.size g m m p ((z - r + 65521) % 65521) ((t - s + 65521) % 65521) W hW hm u0 u1)
        have AB := hid (fun W => above_any r s z t W r0 r1 s0 s1 z0 z1 t0 t1)
        generalize (z - r + 65521) % 65521 = U at *
        generalize (t - s + 65521) % 65521 = V at *
        generalize hQ : rp p U V = Q at *
        clear hQ
        cases hq : rpO Q
        · rw [hq, if_neg (by simp)] at E
          have EE := hid E
          have HQ := hid hq
          rw [hq] at RPA
          clear E hq
          go_wp2_with fail
          go_quiet (fail)
          go_wp2_with fail
          refine (AB.out _).mono ?_
          rintro e w2 ⟨rfl, b2⟩
          have h2 := (DR.out _).below b2
          have b3 := (DB.out _).trans (b2.mono (DB.out _).size)
          clear b2
          go_wp2_with fail
          refine (RPA.out _ h2).mono ?_
          rintro e w3 ⟨rfl, h3, b4⟩
          have b5 := b3.trans b4
          clear h2 b3 b4
          go_wp2
          go_ret3
          exact ⟨_, retsE EE.out, by rw [EE.out]; exact own_nil _ _, b5⟩
        · rw [hq, if_pos rfl] at E
          have EE := hid E
          rw [hq] at RPA
          clear E hq
          go_wp2_with fail
          go_quiet (fail)
          go_wp2_with fail
          refine (AB.out _).mono ?_
          rintro e w2 ⟨rfl, b2⟩
          have h2 := (DR.out _).below b2
          have b3 := (DB.out _).trans (b2.mono (DB.out _).size)
          clear b2
          go_wp2_with fail
          refine (RPA.out _ h2).mono ?_
          rintro e w3 ⟨rfl, h3, b4⟩
          have b5 := b3.trans b4
          have LL := hid h3.len
          clear h2 b3 b4
          go_wp2
          go_ret3
          exact ⟨_, retsE EE.out, by rw [EE.out]; show Own _ _ _ (rpL p Q).length (rpL p Q); rw [LL.out]; exact h3.own, b5⟩

end Go.Proofs.Ytmdhcigkhapolab
