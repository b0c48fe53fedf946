/-
  Contracts of strip: the document's Mended.
-/
import Derived.Test.YtmdhcigkhapolabSS
import Derived.Deep.QuietTactic
import Derived.BigQuiet
namespace Go.Proofs.Ytmdhcigkhapolab
open Go.RowKit Go.Deep
set_option linter.unusedVariables false

theorem Own.rowOf {base : Nat} {w : World} {v : Value} {n : Nat} {l : List Int} (h : Own base w v n l) (hn : 0 < n) : ∃ g c, v = .slice (some ⟨g, 0, none⟩) n c ∧ Row base w g n c l := by
  rcases h.1.2 with ⟨rfl, rfl⟩ | ⟨g, cap, cur, rfl, _⟩
  · omega
  · exact ⟨g, cap, rfl, h⟩

/-- What puts the byte at a place right, if the gap isn't 0. -/
def hitE (l : List Int) (u v : Int) (i : Nat) : Option Int := if u = 0 then none else hitB l u v i
theorem rp_hitE (l : List Int) (u v : Int) : rp l u v = (List.range l.length).findSome? fun i => (hitE l u v i).map fun y => (i, y) := by
  unfold rp hitE
  by_cases h : u = 0
  · rw [if_pos h]
    exact (find_none (fun i _ => by rw [if_pos h]; rfl)).symm
  · simp only [if_neg h]

theorem tm0 (a : Int) : a.tmod 65521 = 0 ↔ a % 65521 = 0 := by
  rw [← Int.dvd_iff_tmod_eq_zero, Int.dvd_iff_emod_eq_zero]

theorem mul_mod_eq {d u k : Int} (h : d % 65521 = u % 65521) : d * k % 65521 = u * k % 65521 := by
  rw [Int.mul_emod, h, ← Int.mul_emod]

theorem hit_iff (l : List Int) (k : Nat) (x r s z t j : Int) (hx : l[k]?.getD 0 = x) (x0 : 0 ≤ x) (x1 : x ≤ 255) (r0 : 0 ≤ r) (r1 : r < 65521) (s0 : 0 ≤ s) (s1 : s < 65521) (z0 : 0 ≤ z) (z1 : z < 65536) (t0 : 0 ≤ t) (t1 : t < 65536) (j0 : 0 ≤ j) (j1 : j ≤ 255) :
    (j - x ≠ 0 ∧ (r + (j - x) - z) % 65521 = 0 ∧ (s + (j - x) * ((k : Int) + 1) - t) % 65521 = 0) ↔ hitE l ((z - r + 65521) % 65521) ((t - s + 65521) % 65521) k = some j := by
  unfold hitE hitB
  rw [hx]
  obtain ⟨u, hu⟩ : ∃ u, u = (z - r + 65521) % 65521 := ⟨_, rfl⟩
  rw [← hu]
  constructor
  · rintro ⟨h1, h2, h3⟩
    have e1 : (j - x) % 65521 = u % 65521 := by omega
    have e2 := mul_mod_eq (k := (k : Int) + 1) e1
    have un : u ≠ 0 := by omega
    rw [if_neg un, if_pos (by rw [← e2]; generalize (j - x) * ((k : Int) + 1) = q at *; omega)]
    unfold opt
    by_cases hj : x ≤ j
    · rw [if_pos (by omega)]; congr 1; omega
    · rw [if_neg (by omega), if_pos (by omega)]; congr 1; omega
  · intro h
    by_cases un : u = 0
    · rw [if_pos un] at h; cases h
    · rw [if_neg un] at h
      by_cases hc : u * ((k : Int) + 1) % 65521 = (t - s + 65521) % 65521
      · rw [if_pos hc] at h
        unfold opt at h
        have hj : j - x = u ∨ j - x = u - 65521 := by
          by_cases a : 0 ≤ x + u ∧ x + u ≤ 255
          · rw [if_pos a] at h; cases h; left; omega
          · rw [if_neg a] at h
            by_cases b : 0 ≤ x + u - 65521 ∧ x + u - 65521 ≤ 255
            · rw [if_pos b] at h; cases h; right; omega
            · rw [if_neg b] at h; cases h
        have e1 : (j - x) % 65521 = u % 65521 := by omega
        have e2 := mul_mod_eq (k := (k : Int) + 1) e1
        refine ⟨by omega, by omega, ?_⟩
        rw [← e2] at hc
        generalize (j - x) * ((k : Int) + 1) = q at *
        omega
      · rw [if_neg hc] at h; cases h
theorem hitE_bd (l : List Int) (u v : Int) (k : Nat) (y : Int) (h : hitE l u v k = some y) : 0 ≤ y ∧ y ≤ 255 := by
  unfold hitE hitB opt at h
  split at h
  · cases h
  split at h
  · split at h
    · cases h; omega
    split at h
    · cases h; omega
    · cases h
  · cases h

set_option maxRecDepth 100000 in
set_option maxHeartbeats 8000000 in
theorem rmend_main (b off m cap : Nat) (L : List Int) (w : World) (h : HoldsB w (some ⟨b, off, none⟩) (m + 4) cap L) (hm : m ≤ 60000) (R : List Int × Int × Int) (HM : Hid (R = mdM L m)) :
    Calls Try.prog 30 #[.slice (some ⟨b, off, none⟩) (m + 4) cap] w fun e w' => ∃ v, e = .returned (.tuple #[v, .int .i64 R.2.1, .int .i64 R.2.2]) ∧ Own w.heap.size w' v R.1.length R.1 ∧ Below w.heap.size w w' := by
  have hcap := h.2.2.1
  have hcx := h.2.2.2.1
  have HT : Hid (HoldsB w (some ⟨b, off, none⟩) m cap (L.take m)) := by
    obtain ⟨h1, h2, h3, h4, h5, h6, h7⟩ := h
    refine ⟨by simp [h1], by omega, by omega, by omega, h5.take m, fun e => by simp at e, fun hp => ?_⟩
    obtain ⟨b', off', e, hc⟩ := h7 (by omega)
    cases e
    exact ⟨b, off, rfl, fun j hj => by rw [hc j (by omega), List.getElem?_take_of_lt hj]⟩
  have t1 : decide ((m : Int) + 4 < 4) = false := by simp; omega
  have t2 : decide (60004 < (m : Int) + 4) = false := by simp; omega
  have HL : Hid ((L.take m).length = m) := by unfold Hid; rw [List.length_take, h.1]; omega
  have rs := P_bd (L.take m)
  have y0 := h.2.2.2.2.1.getD m
  have y1 := h.2.2.2.2.1.getD (m + 1)
  have y2 := h.2.2.2.2.1.getD (m + 2)
  have y3 := h.2.2.2.2.1.getD (m + 3)
  have MM : R = if P1 (L.take m) = L[m]?.getD 0 * 256 + L[m + 1]?.getD 0 ∧ P2 (L.take m) = L[m + 2]?.getD 0 * 256 + L[m + 3]?.getD 0 then (L.take m, -1, 0) else if P2 (L.take m) = L[m + 2]?.getD 0 * 256 + L[m + 3]?.getD 0 then (L.take m, (m : Int), 0) else if P1 (L.take m) = L[m]?.getD 0 * 256 + L[m + 1]?.getD 0 then (L.take m, (m : Int) + 2, 0)
      else if rpO (rp (L.take m) ((L[m]?.getD 0 * 256 + L[m + 1]?.getD 0 - P1 (L.take m) + 65521) % 65521) ((L[m + 2]?.getD 0 * 256 + L[m + 3]?.getD 0 - P2 (L.take m) + 65521) % 65521)) = true then (rpL (L.take m) (rp (L.take m) ((L[m]?.getD 0 * 256 + L[m + 1]?.getD 0 - P1 (L.take m) + 65521) % 65521) ((L[m + 2]?.getD 0 * 256 + L[m + 3]?.getD 0 - P2 (L.take m) + 65521) % 65521)), rpI (rp (L.take m) ((L[m]?.getD 0 * 256 + L[m + 1]?.getD 0 - P1 (L.take m) + 65521) % 65521) ((L[m + 2]?.getD 0 * 256 + L[m + 3]?.getD 0 - P2 (L.take m) + 65521) % 65521)), 0) else ([], 0, 6) := HM.out
  have cells : ∀ W, Below w.heap.size w W → W.cell? ⟨b, off + m, none⟩ = some (.int .u8 (L[m]?.getD 0)) ∧ W.cell? ⟨b, off + (m + 1), none⟩ = some (.int .u8 (L[m + 1]?.getD 0)) ∧ W.cell? ⟨b, off + (m + 2), none⟩ = some (.int .u8 (L[m + 2]?.getD 0)) ∧ W.cell? ⟨b, off + (m + 3), none⟩ = some (.int .u8 (L[m + 3]?.getD 0)) := fun W hW => by
    obtain ⟨b', off', e, hc⟩ := (h.below hW).2.2.2.2.2.2 (by omega)
    cases e
    exact ⟨hc m (by omega), hc (m + 1) (by omega), hc (m + 2) (by omega), hc (m + 3) (by omega)⟩
  have CC := hid cells
  have WT := hid (fun (a : Option Addr) (c : Nat) (W : World) (hh : HoldsB W a m c (L.take m)) => rweights_any a m c _ W hh hm)
  have HMM := hid MM
  have BP := h.2.2.2.2.1.take m
  clear cells HM h MM
  generalize P1 (L.take m) = r at *
  generalize P2 (L.take m) = s at *
  generalize L[m]?.getD 0 = z0 at *
  generalize L[m + 1]?.getD 0 = z1 at *
  generalize L[m + 2]?.getD 0 = z2 at *
  generalize L[m + 3]?.getD 0 = z3 at *
  generalize L.take m = p at *
  obtain ⟨r0, r1, s0, s1⟩ := rs
  obtain ⟨y00, y01⟩ := y0
  obtain ⟨y10, y11⟩ := y1
  obtain ⟨y20, y21⟩ := y2
  obtain ⟨y30, y31⟩ := y3
  have k0 : (0 : Int) ≤ (m : Int) := by omega
  have k1 : IntKind.i64.wrap ((m : Int) + 1) = (m : Int) + 1 := by rw [IntKind.wrap_i64]; omega
  have k2 : IntKind.i64.wrap ((m : Int) + 2) = (m : Int) + 2 := by rw [IntKind.wrap_i64]; omega
  have k3 : IntKind.i64.wrap ((m : Int) + 3) = (m : Int) + 3 := by rw [IntKind.wrap_i64]; omega
  have n1 : ((m : Int) + 1).toNat = m + 1 := by omega
  have n2 : ((m : Int) + 2).toNat = m + 2 := by omega
  have n3 : ((m : Int) + 3).toNat = m + 3 := by omega
  have K1 := hid k1; have K2 := hid k2; have K3 := hid k3; have N1 := hid n1; have N2 := hid n2; have N3 := hid n3
  clear k1 k2 k3 n1 n2 n3
  go_enter Try.func30, Try.ntmps30
  go_wp2_with fail
  refine (twin_any _ m cap _ _ HT.out (by omega)).mono ?_
  rintro e w1 ⟨v1, rfl, h1, b1⟩
  obtain ⟨a1, c1, rfl⟩ := h1.form
  go_wp2_with fail
  refine (WT.out _ _ _ h1.holds).mono ?_
  rintro e w2 ⟨rfl, rfl⟩
  obtain ⟨d0, d1, d2, d3⟩ := CC.out _ b1
  go_wp2_with fail
  have k1 := K1.out; have k2 := K2.out; have k3 := K3.out; have n1 := N1.out; have n2 := N2.out; have n3 := N3.out
  go_quiet (fail)
  clear k1 k2 k3 n1 n2 n3 K1 K2 K3 N1 N2 N3
  have zb : 0 ≤ z0 * 256 + z1 ∧ z0 * 256 + z1 < 65536 := by omega
  have tb : 0 ≤ z2 * 256 + z3 ∧ z2 * 256 + z3 < 65536 := by omega
  clear d0 d1 d2 d3 CC WT
  generalize z0 * 256 + z1 = z at *
  generalize z2 * 256 + z3 = t at *
  obtain ⟨zb0, zb1⟩ := zb
  obtain ⟨tb0, tb1⟩ := tb
  have DO := hid (fun k => h1.below (B := 0) (below_drewN (Below.refl _ w1) k))
  have DB := hid (fun k => below_drewN b1 k)
  have h1l := h1
  clear h1
  have H1 := hid h1l
  clear h1l b1
  by_cases c1' : r = z
  · have q1 : (r == z) = true := by simp [c1']
    by_cases c2' : s = t
    · have q2 : (s == t) = true := by simp [c2']
      have E := HMM.out
      rw [if_pos ⟨c1', c2'⟩] at E
      have EE := hid E
      clear E c1' c2'
      go_wp2
      go_ret3
      exact ⟨_, retsE EE.out, by rw [EE.out, HL.out]; exact DO.out _, DB.out _⟩
    · have q2 : (s == t) = false := by simp [c2']
      have E := HMM.out
      rw [if_neg (fun h => c2' h.2), if_neg c2', if_pos c1'] at E
      have EE := hid E
      clear E c1' c2'
      go_wp2
      go_ret3
      exact ⟨_, retsE EE.out, by rw [EE.out, HL.out]; exact DO.out _, DB.out _⟩
  · have q1 : (r == z) = false := by simp [c1']
    by_cases c2' : s = t
    · have q2 : (s == t) = true := by simp [c2']
      have E := HMM.out
      rw [if_neg (fun h => c1' h.1), if_pos c2'] at E
      have EE := hid E
      clear E c1' c2'
      go_wp2
      go_ret3
      exact ⟨_, retsE EE.out, by rw [EE.out, HL.out]; exact DO.out _, DB.out _⟩
    · have q2 : (s == t) = false := by simp [c2']
      have E := HMM.out
      rw [if_neg (fun h => c1' h.1), if_neg c2', if_neg c1', rp_hitE, HL.out] at E
      have EE := hid E
      clear E c1' c2' HMM
      have HI := hid (fun (k : Nat) (x : Int) (hx : p[k]?.getD 0 = x) (x0 : 0 ≤ x) (x1 : x ≤ 255) (j : Int) (j0 : 0 ≤ j) (j1 : j ≤ 255) => hit_iff p k x r s z t j hx x0 x1 r0 r1 s0 s1 zb0 zb1 tb0 tb1 j0 j1)
      have HBD := hid (fun k y => hitE_bd p ((z - r + 65521) % 65521) ((t - s + 65521) % 65521) k y)
      generalize (z - r + 65521) % 65521 = U at *
      generalize (t - s + 65521) % 65521 = V at *
      go_wp2_with fail
      go_loop [11] (fun i => ∃ k : Nat, k ≤ m ∧ i = .int .i64 k ∧ Hid (∀ i, i < k → hitE p U V i = none)) (fun i => m - (intOf i).toNat)
      case atStart => exact ⟨0, by omega, rfl, fun i hi => absurd hi (by omega)⟩
      case round =>
        obtain ⟨k, hk, rfl, ha⟩ := hrel
        by_cases hlt : k < m
        · obtain ⟨g, c, e1, hr⟩ := (DO.out nq).rowOf (by omega)
          cases e1
          have cx := hr.cellAt k hlt
          have fx := hr.frozenAt k
          have x01 := BP.getD k
          have hgl := hr.lt
          have ST := hid (fun y y0 y1 => hr.stored k y y0 y1)
          have HX := HI.out k _ rfl x01.1 x01.2
          have NX : Hid (hitE p U V k = none → ∀ i, i < k + 1 → hitE p U V i = none) := fun h i hi => by
            by_cases e : i = k
            · rw [e]; exact h
            · exact ha.out i (by omega)
          have RX : Hid (∀ y, hitE p U V k = some y → (List.range m).findSome? (fun i => (hitE p U V i).map fun y => (i, y)) = some (k, y)) := fun y hy =>
            find_at hlt (fun i hi => by rw [ha.out i hi]; rfl) (by rw [hy]; rfl)
          have HXX := hid HX
          have HR2 := hid hr
          clear HX hr HI ha
          obtain ⟨x0, x1⟩ := x01
          generalize p[k]?.getD 0 = x at *
          go_wp2_with fail
          go_loop [12] (fun i => ∃ j : Nat, j ≤ 256 ∧ i = .int .i64 j ∧ Hid (∀ j' : Nat, j' < j → hitE p U V k ≠ some (j' : Int))) (fun i => 256 - (intOf i).toNat)
          case atStart => exact ⟨0, by omega, rfl, fun i hi => absurd hi (by omega)⟩
          case round =>
            obtain ⟨j, hj, rfl, hb⟩ := hrel
            by_cases hlt2 : j < 256
            · have IFF := HXX.out (j : Int) (by omega) (by omega)
              have NJ : Hid (¬ hitE p U V k = some (j : Int) → ∀ j' : Nat, j' < j + 1 → hitE p U V k ≠ some (j' : Int)) := fun h j' hj' => by
                by_cases e : j' = j
                · rw [e]; exact h
                · exact hb.out j' (by omega)
              have mb : -15300000 ≤ ((j : Int) - x) * ((k : Int) + 1) ∧ ((j : Int) - x) * ((k : Int) + 1) ≤ 15300000 := by
                have a1 : ((j : Int) - x) * ((k : Int) + 1) ≤ 255 * ((k : Int) + 1) := Int.mul_le_mul_of_nonneg_right (by omega) (by omega)
                have a2 : -255 * ((k : Int) + 1) ≤ ((j : Int) - x) * ((k : Int) + 1) := Int.mul_le_mul_of_nonneg_right (by omega) (by omega)
                omega
              obtain ⟨mb0, mb1⟩ := mb
              by_cases e1 : (j : Int) - x = 0
              · have u1 : ((j : Int) - x != 0) = false := by simp; omega
                have N := hid (NJ.out (fun h => (IFF.2 h).1 e1))
                clear IFF NJ e1
                go_wp2
                go_round
                case rel => exact ⟨j + 1, by omega, by go_num, N.out⟩
                case measure => simp [intOf]; omega
              · have u1 : ((j : Int) - x != 0) = true := by simp; omega
                by_cases e2 : (r + ((j : Int) - x) - z).tmod 65521 = 0
                · have u2 : ((r + ((j : Int) - x) - z).tmod 65521 == 0) = true := by simpa using e2
                  by_cases e3 : (s + ((j : Int) - x) * ((k : Int) + 1) - t).tmod 65521 = 0
                  · have u3 : ((s + ((j : Int) - x) * ((k : Int) + 1) - t).tmod 65521 == 0) = true := by simpa using e3
                    have RR := hid (RX.out _ (IFF.1 ⟨e1, (tm0 _).1 e2, (tm0 _).1 e3⟩))
                    have E := EE.out
                    rw [RR.out, if_pos (show rpO (some (k, (j : Int))) = true from rfl)] at E
                    have EF := hid E
                    clear IFF NJ e1 e2 e3 E RX NX
                    go_wp2
                    go_ret3
                    exact ⟨_, retsE EF.out, by rw [EF.out]; show Own _ _ _ (p.set k (j : Int)).length (p.set k (j : Int)); rw [List.length_set, HL.out]; exact (ST.out _ (by omega) (by omega)).own, (DB.out nq).setCell (by simp; omega) _⟩
                  · have u3 : ((s + ((j : Int) - x) * ((k : Int) + 1) - t).tmod 65521 == 0) = false := by simpa using e3
                    have N := hid (NJ.out (fun h => e3 ((tm0 _).2 (IFF.2 h).2.2)))
                    clear IFF NJ e1 e2 e3
                    go_wp2
                    go_round
                    case rel => exact ⟨j + 1, by omega, by go_num, N.out⟩
                    case measure => simp [intOf]; omega
                · have u2 : ((r + ((j : Int) - x) - z).tmod 65521 == 0) = false := by simpa using e2
                  have N := hid (NJ.out (fun h => e2 ((tm0 _).2 (IFF.2 h).2.1)))
                  clear IFF NJ e1 e2
                  go_wp2
                  go_round
                  case rel => exact ⟨j + 1, by omega, by go_num, N.out⟩
                  case measure => simp [intOf]; omega
            · have N : Hid (∀ i, i < k + 1 → hitE p U V i = none) := NX.out (by
                cases hq : hitE p U V k with
                | none => rfl
                | some y =>
                  have bd := HBD.out k y hq
                  obtain ⟨y', rfl⟩ := Int.eq_ofNat_of_zero_le bd.1
                  exact absurd hq (hb.out y' (by omega)))
              go_wp2
              go_round
              case rel => exact ⟨k + 1, by omega, by go_num, N.out⟩
              case measure => simp [intOf]; omega
        · obtain rfl : k = m := by omega
          have E := EE.out
          rw [find_none (fun i hi => by rw [ha.out i hi]; rfl)] at E
          have EF := hid E
          clear E
          go_wp2
          go_ret3
          exact ⟨_, retsE EF.out, by rw [EF.out]; exact own_nil _ _, DB.out _⟩

set_option maxHeartbeats 1000000 in
theorem rmend_any (a : Option Addr) (n cap : Nat) (L : List Int) (w : World) (h : HoldsB w a n cap L) :
    Calls Try.prog 30 #[.slice a n cap] w fun e w' => ∃ v, e = .returned (.tuple #[v, .int .i64 (md L).2.1, .int .i64 (md L).2.2]) ∧ Own w.heap.size w' v (md L).1.length (md L).1 ∧ Below w.heap.size w w' := by
  have hm := h.2.1
  by_cases h1 : n < 4
  · have E : Hid (md L = ([], 0, 5)) := by unfold Hid md; rw [h.1, if_pos h1]
    have t1 : decide ((n : Int) < 4) = true := by simp; omega
    have t2 : decide (n < 4) = true := by simp; omega
    clear h
    go_enter Try.func30, Try.ntmps30
    go_wp2
    go_ret3
    exact ⟨_, retsE E.out, by rw [E.out]; exact own_nil _ _, Below.refl _ _⟩
  by_cases h2 : 60004 < n
  · have E : Hid (md L = ([], 0, 3)) := by unfold Hid md; rw [h.1, if_neg h1, if_pos h2]
    have t1 : decide ((n : Int) < 4) = false := by simp; omega
    have t2 : decide (n < 4) = false := by simp; omega
    have t3 : decide (60004 < (n : Int)) = true := by simp; omega
    have t4 : decide (60004 < n) = true := by simp; omega
    clear h
    go_enter Try.func30, Try.ntmps30
    go_wp2
    go_ret3
    exact ⟨_, retsE E.out, by rw [E.out]; exact own_nil _ _, Below.refl _ _⟩
  obtain ⟨m, rfl⟩ : ∃ m, n = m + 4 := ⟨n - 4, by omega⟩
  obtain ⟨b, off, rfl, hc⟩ := h.2.2.2.2.2.2 (by omega)
  refine rmend_main b off m cap L w h (by omega) _ ?_
  unfold Hid md
  rw [h.1, if_neg h1, if_neg h2]
  simp

end Go.Proofs.Ytmdhcigkhapolab
