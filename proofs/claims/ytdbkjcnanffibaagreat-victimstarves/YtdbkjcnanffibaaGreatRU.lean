/-
  Contracts of queue: the code's sums, whole; Sums.
-/
import Derived.Test.YtdbkjcnanffibaaGreatRT
import Derived.Test.YtdbkjcnanffibaaGreatQK
import Derived.Test.YtdbkjcnanffibaaGreatRP
namespace Go.Proofs.YtdbkjcnanffibaaGreat
open Go.RowKit Go.Deep Go.Maps Go.Shelf
set_option linter.unusedVariables false

set_option maxRecDepth 100000 in
set_option maxHeartbeats 4000000 in
theorem sums_bad (lb off len cap mb : Nat) (l : List Qu) (ub : Option Addr) (n uc : Nat) (us : List Us) (w : World) (hT : Tree w lb off len cap mb l) (hu : HoldsU w ub n uc us) (hq : ∀ u ∈ us, I64 u.qu) (K : Nat) (hK : K < us.length) (hG : ∀ u ∈ us.take K, useE l u = 0) (EE : Int) (hEE : useE l (ua us K) = EE) (hE : EE ≠ 0) :
    Calls Tryz.prog 32 #[tv lb off len cap mb, .slice ub n uc] w fun e W' => e = .returned (.tuple #[.slice none 0 0, .int .i64 EE]) ∧ Below w.heap.size w W' := by
  have HT := hid hT
  have HU := hid hu
  have HQ := hid hq
  have UL := hid hu.1
  have hkn : K < n := by rw [← hu.1]; exact hK
  have HG := hid hG
  have HE := hid hE
  have HEE := hid hEE
  clear hEE
  have ucap := hu.2.1
  have ucm := hu.2.2.1
  clear hT hu hq hG hE hK
  go_enter Tryz.func32, Tryz.ntmps32
  go_wp2_with fail
  go_loopw [17] (fun i wr => ∃ k : Nat, k ≤ K ∧ i = .int .i64 k ∧ Hid (BoxS w.heap.size lb off len cap mb wr) ∧ Hid (Below w.heap.size w wr)) (fun i _ => n - (intOf i).toNat)
  case atStart => exact ⟨0, by omega, rfl, by unfold Hid BoxS; simp [go_sem], show Below _ _ _ from (by repeat (first | exact Below.refl _ _ | assumption | refine Below.alloc ?_ (by simp <;> omega) _ | refine Below.setCell ?_ (by simp <;> omega) _ | refine Below.drew ?_ | refine below_drewN ?_ _))⟩
  case round =>
    obtain ⟨k, hk, rfl, hS, hB⟩ := hrel
    have hlt : k < n := by omega
    have hlt' : k < us.length := by rw [UL.out]; exact hlt
    obtain ⟨vb, vo, rfl, hrow⟩ := HU.out.rowU (by omega)
    obtain ⟨c0, c1, c2⟩ := hrow k hlt
    replace c0 := keepc hB.out c0
    replace c1 := keepc hB.out c1
    replace c2 := keepc hB.out c2
    have UI := hid (HQ.out _ (ua_mem hlt'))
    have CU := hid (fun W hW => checkUse_any lb off len cap mb l (ua us k) W (HT.out.below hW) UI.out)
    obtain ⟨s1, s2, s3, s4, s5, s6⟩ := hS.out
    have ka : (0 : Int) ≤ (k : Int) := by omega
    have kb : (k : Int) < (n : Int) := by omega
    clear hrow
    by_cases hkK : k < K
    · have UE : Hid (useE l (ua us k) = 0) := HG.out _ (by rw [show us.take K = us.take K from rfl]; exact List.mem_of_getElem? (by rw [List.getElem?_take, if_pos hkK]; exact ua_get hlt'))
      rw [UE.out] at CU
      clear UE
      generalize ua us k = u at *
      obtain ⟨u1, u2, u3⟩ := u
      simp only at *
      have BA := hid (hB.out.alloc hB.out.size (.cells #[.int .i64 u1, .int .i64 u2, .int .i64 u3] 44))
      have SA := hid (hS.out.below ((Below.refl _ wr).alloc (Nat.le_refl _) (.cells #[.int .i64 u1, .int .i64 u2, .int .i64 u3] 44)))
      have t0 := keepc ((Below.refl _ wr).alloc (Nat.le_refl _) (.cells #[.int .i64 u1, .int .i64 u2, .int .i64 u3] 44)) s1
      have t1 := keepc ((Below.refl _ wr).alloc (Nat.le_refl _) (.cells #[.int .i64 u1, .int .i64 u2, .int .i64 u3] 44)) s2
      clear s3 s4 s5 s6
      go_wp2_with fail
      refine (CU.out _ BA.out).mono ?_
      rintro e w1 ⟨rfl, b1⟩
      have B1 := hid (BA.out.trans (b1.mono BA.out.size))
      have S1 := hid (SA.out.below b1)
      clear b1 s1 s2 t0 t1 c0 c1 c2
      go_wp2
      go_roundw
      case rel => exact ⟨k + 1, by omega, by go_num, S1, B1⟩
      case measure => simp [intOf]; omega
    · obtain rfl : K = k := by omega
      have te : (EE != 0) = true := by simpa using HE.out
      rw [HEE.out] at CU
      clear HEE
      generalize ua us K = u at *
      obtain ⟨u1, u2, u3⟩ := u
      simp only at *
      have BA := hid (hB.out.alloc hB.out.size (.cells #[.int .i64 u1, .int .i64 u2, .int .i64 u3] 44))
      have SA := hid (hS.out.below ((Below.refl _ wr).alloc (Nat.le_refl _) (.cells #[.int .i64 u1, .int .i64 u2, .int .i64 u3] 44)))
      have t0 := keepc ((Below.refl _ wr).alloc (Nat.le_refl _) (.cells #[.int .i64 u1, .int .i64 u2, .int .i64 u3] 44)) s1
      have t1 := keepc ((Below.refl _ wr).alloc (Nat.le_refl _) (.cells #[.int .i64 u1, .int .i64 u2, .int .i64 u3] 44)) s2
      clear s3 s4 s5 s6
      go_wp2_with fail
      refine (CU.out _ BA.out).mono ?_
      rintro e w1 ⟨rfl, b1⟩
      have B1 := hid (BA.out.trans (b1.mono BA.out.size))
      obtain ⟨z1, z2, z3, z4, z5, z6⟩ := SA.out.below b1
      clear b1 s1 s2 t0 t1 c0 c1 c2 z1 z2
      go_wp2
      refine bodyPost_ret (v := .tuple #[.slice none 0 0, .int .i64 EE]) (by simp [results, Tryz.results32, go_sem, z3, z5]) rfl ⟨rfl, ?_⟩
      exact (B1.out.setCell (p := ⟨w.heap.size + 1, 0, none⟩) (by simp) _).setCell (p := ⟨w.heap.size + 1 + 1, 0, none⟩) (by simp <;> omega) _

/-- The first of the uses that is wrong. -/
theorem uses_split {l : List Qu} : ∀ {us : List Us}, (∀ u ∈ us, useE l u = 0) ∨ ∃ K, K < us.length ∧ (∀ u ∈ us.take K, useE l u = 0) ∧ useE l (ua us K) ≠ 0 := by
  intro us
  induction us with
  | nil => exact .inl (fun u hu => by cases hu)
  | cons u r ih =>
    by_cases h : useE l u = 0
    · rcases ih with h1 | ⟨K, h1, h2, h3⟩
      · exact .inl (fun x hx => by
          rcases List.mem_cons.1 hx with rfl | hx
          · exact h
          · exact h1 x hx)
      · refine .inr ⟨K + 1, by simp; omega, fun x hx => ?_, h3⟩
        rw [List.take_succ_cons] at hx
        rcases List.mem_cons.1 hx with rfl | hx
        · exact h
        · exact h2 x hx
    · exact .inr ⟨0, by simp, fun x hx => by simp at hx, h⟩
theorem sums_any (lb off len cap mb : Nat) (l : List Qu) (ub : Option Addr) (n uc : Nat) (us : List Us) (w : World) (hT : Tree w lb off len cap mb l) (hu : HoldsU w ub n uc us) (hq : ∀ u ∈ us, I64 u.qu) (hC : chkE l = 0) :
    Calls Tryz.prog 32 #[tv lb off len cap mb, .slice ub n uc] w fun e W' => ∃ v, e = .returned (.tuple #[v, .int .i64 (sumsE l us)]) ∧ AnsV w.heap.size W' v (sumsR l us) ∧ Below w.heap.size w W' := by
  rcases uses_split (l := l) (us := us) with hA | ⟨K, h1, h2, h3⟩
  · have e1 : sumsE l us = halfE l us := by unfold sumsE halfE; rw [if_neg (by rw [hC]; decide), if_neg (by rw [usesE_good hA]; decide)]
    have e2 : sumsR l us = halfR l us := by
      unfold sumsR
      rw [e1]
      unfold halfE halfR
      cases fitsB l us <;> simp
    rw [e1, e2]
    exact callsIn_wide.1 (sums_good lb off len cap mb l ub n uc us w hT hu hq hA)
  · have eu := usesE_bad h1 h2 h3
    have e1 : sumsE l us = useE l (ua us K) := by unfold sumsE; rw [if_neg (by rw [hC]; decide), if_pos (by rw [eu]; exact h3), eu]
    have e2 : sumsR l us = [] := by unfold sumsR; rw [if_neg (by rw [e1]; exact h3)]
    rw [e1, e2]
    refine (sums_bad lb off len cap mb l ub n uc us w hT hu hq K h1 h2 _ rfl h3).mono ?_
    rintro e w' ⟨rfl, hb⟩
    exact ⟨_, rfl, .inl ⟨rfl, rfl⟩, hb⟩

set_option maxRecDepth 100000 in
set_option maxHeartbeats 2000000 in
theorem qsums_any (a : Option Addr) (len cap : Nat) (l : List Qu) (ub : Option Addr) (n uc : Nat) (us : List Us) (w : World) (h : HoldsQ w a len cap l) (hok : ∀ q ∈ l, q.ok) (hu : HoldsU w ub n uc us) (hq : ∀ u ∈ us, I64 u.qu) :
    Calls Tryz.prog 13 #[.slice a len cap, .slice ub n uc] w fun e w' => ∃ v, e = .returned (.tuple #[v, .int .i64 (sumsE l us)]) ∧ AnsV w.heap.size w' v (sumsR l us) ∧ Below w.heap.size w w' := by
  have HR := hid (read_any a len cap l w h hok)
  have HU := hid hu
  have HQ := hid hq
  by_cases hC : chkE l = 0
  · have HC := hid hC
    clear h hok hu hq hC
    go_enter Tryz.func13, Tryz.ntmps13
    go_wp2_with fail
    refine HR.out.mono ?_
    rintro e w1 ⟨h1 | h1, b1⟩
    · obtain ⟨_, lb, off, mb, rfl, rfl, hT⟩ := h1
      have hBA : Below w1.heap.size w1 (w1.alloc (.cells #[.slice (some ⟨lb, off, none⟩) len cap, .map (some mb)] 74)) := (Below.refl _ w1).alloc (Nat.le_refl _) _
      have B1 := hid (b1.trans (hBA.mono b1.size))
      have SM := hid (sums_any lb off len cap mb l ub n uc us (w1.alloc (.cells #[.slice (some ⟨lb, off, none⟩) len cap, .map (some mb)] 74)) (hT.below hBA) (HU.out.below B1.out) HQ.out HC.out)
      have sz : w.heap.size ≤ (w1.alloc (.cells #[.slice (some ⟨lb, off, none⟩) len cap, .map (some mb)] 74)).heap.size := B1.out.size
      clear hT hBA b1
      go_wp2_with fail
      refine SM.out.mono ?_
      rintro e w2 ⟨v, rfl, o2, b2⟩
      have B2 := hid (B1.out.trans (b2.mono B1.out.size))
      obtain ⟨a2, c2, rfl, h2⟩ := o2.holds
      have O2 := hid o2
      clear o2 b2 h2
      generalize (sumsR l us).length = L at *
      go_wp2
      go_ret2
      exact ⟨_, rfl, O2.out.weaken sz, B2.out⟩
    · exact absurd HC.out h1.1
  · have t : (chkE l != 0) = true := by simpa using hC
    have e1 : Hid (sumsE l us = chkE l) := by unfold Hid sumsE; rw [if_pos hC]
    have e2 : Hid (sumsR l us = []) := by unfold Hid sumsR; rw [if_neg (by rw [e1.out]; exact hC)]
    have HC := hid hC
    clear h hok hu hq hC
    rw [e1.out, e2.out]
    generalize chkE l = E at *
    go_enter Tryz.func13, Tryz.ntmps13
    go_wp2_with fail
    refine HR.out.mono ?_
    rintro e w1 ⟨h1 | h1, b1⟩
    · exact absurd h1.1 HC.out
    · obtain ⟨_, rfl⟩ := h1
      have B1 := hid (b1.alloc b1.size (.cells #[.slice none 0 0, .map none] 74))
      clear b1
      go_wp2
      go_ret2
      exact ⟨_, rfl, .inl ⟨rfl, rfl⟩, B1.out⟩

end Go.Proofs.YtdbkjcnanffibaaGreat
