/- QueueTotals: for every list of queues and every list of uses the law answers true, and its arguments read as they did. No further conditions. -/
import Derived.Test.YtdomimpcjkajiaaRX
import Derived.Test.YtdomimpcjkajiaaQT
import Derived.Test.YtdomimpcjkajiaaQV
import Derived.Test.YtdomimpcjkajiaaRQ
namespace Go.Proofs.Ytdomimpcjkajiaa.queueTotals
open Go.ChangeShapes Go.WideShapes Go.ChangeAt Go.RowKit Go.Deep Go.Maps Go.Shelf
set_option linter.unusedVariables false
set_option linter.unusedSimpArgs false

theorem rowq {w : World} {b off len cap : Nat} {l : List Qu} (h : HoldsQ w (some ⟨b, off, none⟩) len cap l) (hp : 0 < len) : RowQ w b off l := by
  obtain ⟨b', off', e, r⟩ := h.row hp
  cases e
  exact r
theorem absW {K : Act → World → Prop} {a : Act} {w : World} (p : World → Prop) (hp : p w) (h : ∀ wx, p wx → K a wx) : K a w := h w hp
section
variable {W : World} {b x o : Nat} {p q v : Value}
theorem set2_keep (h : W.cell? ⟨x, o, none⟩ = some v) (hne : x ≠ b) : ((W.setCell ⟨b, 0, none⟩ p).setCell ⟨b, 1, none⟩ q).cell? ⟨x, o, none⟩ = some v :=
  ((World.cell?_setCell_other _ _ _ _ (by simp [hne])).trans ((World.cell?_setCell_other _ _ _ _ (by simp [hne])).trans h))
theorem set2_froz (hf : W.frozen? ⟨x, o, none⟩ = false) : ((W.setCell ⟨b, 0, none⟩ p).setCell ⟨b, 1, none⟩ q).frozen? ⟨x, o, none⟩ = false := by rw [World.frozen?_setCell, World.frozen?_setCell]; exact hf
theorem set2_new {c m : Int} {p q : Int} (h0 : W.cell? ⟨b, 0, none⟩ = some (.int .i64 c)) (h1 : W.cell? ⟨b, 1, none⟩ = some (.int .i64 m)) (f0 : W.frozen? ⟨b, 0, none⟩ = false) (f1 : W.frozen? ⟨b, 1, none⟩ = false) :
    ((W.setCell ⟨b, 0, none⟩ (.int .i64 p)).setCell ⟨b, 1, none⟩ (.int .i64 q)).cell? ⟨b, 0, none⟩ = some (.int .i64 p) ∧ ((W.setCell ⟨b, 0, none⟩ (.int .i64 p)).setCell ⟨b, 1, none⟩ (.int .i64 q)).cell? ⟨b, 1, none⟩ = some (.int .i64 q) ∧ ((W.setCell ⟨b, 0, none⟩ (.int .i64 p)).setCell ⟨b, 1, none⟩ (.int .i64 q)).frozen? ⟨b, 0, none⟩ = false ∧ ((W.setCell ⟨b, 0, none⟩ (.int .i64 p)).setCell ⟨b, 1, none⟩ (.int .i64 q)).frozen? ⟨b, 1, none⟩ = false := by
  have z0 : ((W.setCell ⟨b, 0, none⟩ (.int .i64 p)).setCell ⟨b, 1, none⟩ (.int .i64 q)).cell? ⟨b, 0, none⟩ = some (.int .i64 p) := by simp [go_sem, h0, h1]
  have z1 : ((W.setCell ⟨b, 0, none⟩ (.int .i64 p)).setCell ⟨b, 1, none⟩ (.int .i64 q)).cell? ⟨b, 1, none⟩ = some (.int .i64 q) := by simp [go_sem, h0, h1]
  exact ⟨z0, z1, set2_froz f0, set2_froz f1⟩
theorem set2_below {N : Nat} {A : World} (hB : Below N A W) (hb : N ≤ b) : Below N A ((W.setCell ⟨b, 0, none⟩ p).setCell ⟨b, 1, none⟩ q) :=
  (hB.setCell (p := ⟨b, 0, none⟩) hb p).setCell (p := ⟨b, 1, none⟩) hb q
end

set_option maxRecDepth 100000 in
set_option maxHeartbeats 16000000 in
theorem walk_bad (a : Option Addr) (len cap : Nat) (l : List Qu) (ub : Option Addr) (n uc : Nat) (us : List Us) (w : World) (h : HoldsQ w a len cap l) (hok : ∀ q ∈ l, q.ok) (hu : HoldsU w ub n uc us) (huk : ∀ u ∈ us, u.ok) (hE : sumsE l us ≠ 0) :
    Calls Try.prog 4 #[.slice a len cap, .slice ub n uc] w fun e w' => e = .returned (.bool true) ∧ Below w.heap.size w w' := by
  have HH := hid h
  have HO := hid hok
  have HU := hid hu
  have HQ := hid (fun u hu => (huk u hu).1)
  have HL := hid h.1
  have UL := hid hu.1
  have hcap0 := h.2.1
  have ucap := hu.2.1
  have ucm := hu.2.2.1
  clear h hok hu huk
  have t : (sumsE l us != 0) = true := by simpa using hE
  have ER : Hid (sumsR l us = []) := by unfold Hid sumsR; rw [if_neg hE]
  clear hE
  go_enter Try.func4, Try.ntmps4
  go_wp2_with fail
  refine (awake_any w).mono ?_
  rintro e w1 ⟨rfl, b1⟩
  have SM := hid (qsums_any a len cap l ub n uc us w1 (HH.out.below b1) HO.out (HU.out.below b1) HQ.out)
  rw [ER.out] at SM
  go_wp2_with fail
  refine SM.out.mono ?_
  rintro e w2 ⟨v2, rfl, o2, b2⟩
  have B2 := b1.trans (b2.mono b1.size)
  obtain ⟨a2, c2, rfl, _⟩ := o2.holds
  clear o2 b2 SM
  generalize sumsE l us = E at *
  go_wp2
  go_ret
  exact ⟨rfl, B2⟩

set_option maxRecDepth 100000 in
set_option maxHeartbeats 16000000 in
theorem walk_good (a : Option Addr) (len cap : Nat) (l : List Qu) (ub : Option Addr) (n uc : Nat) (us : List Us) (w : World) (h : HoldsQ w a len cap l) (hok : ∀ q ∈ l, q.ok) (hu : HoldsU w ub n uc us) (huk : ∀ u ∈ us, u.ok) (hE : sumsE l us = 0) :
    Calls Try.prog 4 #[.slice a len cap, .slice ub n uc] w fun e w' => e = .returned (.bool true) ∧ Below w.heap.size w w' := by
  have HH := hid h
  have HO := hid hok
  have HU := hid hu
  have HQ := hid (fun u hu => (huk u hu).1)
  have HL := hid h.1
  have UL := hid hu.1
  have hcap0 := h.2.1
  have ucap := hu.2.1
  have ucm := hu.2.2.1
  clear h hok hu huk
  obtain ⟨hC, hFt⟩ := sumsE_zero hE
  have hG := chkE_ok.1 hC
  have FP := hid hG.2.1
  have FT := hid hFt
  have RT := hid (sums_right hE)
  have hp : 0 < len := by have := hG.2.1.1; rw [HL.out] at this; exact this
  have hle : len ≤ 64 := by rw [← HL.out]; exact hG.1
  have ER : Hid (sumsR l us = vecsTo l us l.length) := by unfold Hid sumsR; rw [if_pos hE]
  have EE := hid hE
  obtain ⟨qb, qo, rfl, hR⟩ := HH.out.row hp
  clear hE hC hG hFt hR
  have hnv := neqv_same
  go_enter Try.func4, Try.ntmps4
  go_wp2_with fail
  refine (awake_any w).mono ?_
  rintro e w1 ⟨rfl, b1⟩
  have SM := hid (qsums_any _ len cap l ub n uc us w1 (HH.out.below b1) HO.out (HU.out.below b1) HQ.out)
  rw [ER.out] at SM
  go_wp2_with fail
  refine SM.out.mono ?_
  rintro e w2 ⟨v2, rfl, o2, b2⟩
  rw [EE.out]
  have B2 := hid (b1.trans (b2.mono b1.size))
  obtain ⟨a2, c2, rfl, h2⟩ := o2.holds
  rw [vecsTo_len, HL.out] at h2 ⊢
  obtain ⟨mb, mo, rfl, M2⟩ := h2.rowV hp
  have mcap := h2.2.1
  have MM := hid M2
  have U2 := hid (HU.out.below B2.out)
  have H2 := hid (HH.out.below B2.out)
  clear o2 b2 SM h2 M2 b1
  go_wp2_with fail
  have st : Hid (Below w2.heap.size w2 (w2.alloc (.cells #[.int .i64 0, .int .i64 0] 25))) := (Below.refl _ w2).alloc (Nat.le_refl _) _
  go_loopw [39] (fun i wr => ∃ k : Nat, k ≤ n ∧ i = .int .i64 k ∧ Hid (wr.cell? ⟨w2.heap.size, 0, none⟩ = some (.int .i64 (vecAt l (us.take k) 0).1) ∧ wr.cell? ⟨w2.heap.size, 1, none⟩ = some (.int .i64 (vecAt l (us.take k) 0).2) ∧ wr.frozen? ⟨w2.heap.size, 0, none⟩ = false ∧ wr.frozen? ⟨w2.heap.size, 1, none⟩ = false) ∧ Hid (Below w2.heap.size w2 wr)) (fun i _ => n - (intOf i).toNat)
  case atStart => exact ⟨0, by omega, rfl, by unfold Hid; simp [go_sem, vecAt, sumU], st⟩
  case round =>
    obtain ⟨k, hk, rfl, hA, hB⟩ := hrel
    by_cases hlt : k < n
    · have hlt' : k < us.length := by rw [UL.out]; exact hlt
      obtain ⟨vb, vo, rfl, hrow⟩ := U2.out.rowU (by omega)
      obtain ⟨c0, c1, c2'⟩ := hrow k hlt
      replace c0 := keepc hB.out c0
      replace c1 := keepc hB.out c1
      replace c2' := keepc hB.out c2'
      have ST := hid (all_step FP.out RT.out hlt')
      have ok0 := okv_true (fits_take RT.out (k + 1) (fits_at FT.out (i := 0) (by rw [HL.out]; exact hp)))
      rw [ST.out] at ok0
      obtain ⟨r0, r1, f0, f1⟩ := hA.out
      have hAw := cell_lt r0
      simp only at hAw
      generalize vecAt l (us.take k) 0 = V at *
      obtain ⟨C, M⟩ := V
      generalize ua us k = u at *
      obtain ⟨u1, u2, u3⟩ := u
      unfold okp at ok0
      simp only at *
      have hw1 : IntKind.i64.wrap (C + u2) = C + u2 := by rw [IntKind.wrap_i64]; omega
      have hw2 : IntKind.i64.wrap (M + u3) = M + u3 := by rw [IntKind.wrap_i64]; omega
      have BA : Below wr.heap.size wr (wr.alloc (.cells #[.int .i64 u1, .int .i64 u2, .int .i64 u3] 36)) := (Below.refl _ wr).alloc (Nat.le_refl _) _
      have x0 := keepc BA r0
      have x1 := keepc BA r1
      have g0 := keepf BA r0 f0
      have g1 := keepf BA r1 f1
      have s1 : (wr.setCell ⟨w2.heap.size, 0, none⟩ (.int .i64 (C + u2))).cell? ⟨w2.heap.size, 1, none⟩ = some (.int .i64 M) := (World.cell?_setCell_other _ _ _ _ (by simp)).trans r1
      have s2 : (wr.setCell ⟨w2.heap.size, 0, none⟩ (.int .i64 (C + u2))).frozen? ⟨w2.heap.size, 1, none⟩ = false := by rw [World.frozen?_setCell]; exact f1
      have BS : Below (wr.setCell ⟨w2.heap.size, 0, none⟩ (.int .i64 (C + u2))).heap.size (wr.setCell ⟨w2.heap.size, 0, none⟩ (.int .i64 (C + u2))) ((wr.setCell ⟨w2.heap.size, 0, none⟩ (.int .i64 (C + u2))).alloc (.cells #[.int .i64 u1, .int .i64 u2, .int .i64 u3] 36)) := (Below.refl _ _).alloc (Nat.le_refl _) _
      have y0 := keepc BS s1
      have y2 := keepf BS s1 s2
      have z0 : ((wr.setCell ⟨w2.heap.size, 0, none⟩ (.int .i64 (C + u2))).setCell ⟨w2.heap.size, 1, none⟩ (.int .i64 (M + u3))).cell? ⟨w2.heap.size, 0, none⟩ = some (.int .i64 (C + u2)) := by simp [go_sem, r0, r1]
      have z1 : ((wr.setCell ⟨w2.heap.size, 0, none⟩ (.int .i64 (C + u2))).setCell ⟨w2.heap.size, 1, none⟩ (.int .i64 (M + u3))).cell? ⟨w2.heap.size, 1, none⟩ = some (.int .i64 (M + u3)) := by simp [go_sem, r0, r1]
      have BT : Below ((wr.setCell ⟨w2.heap.size, 0, none⟩ (.int .i64 (C + u2))).setCell ⟨w2.heap.size, 1, none⟩ (.int .i64 (M + u3))).heap.size ((wr.setCell ⟨w2.heap.size, 0, none⟩ (.int .i64 (C + u2))).setCell ⟨w2.heap.size, 1, none⟩ (.int .i64 (M + u3))) (((wr.setCell ⟨w2.heap.size, 0, none⟩ (.int .i64 (C + u2))).setCell ⟨w2.heap.size, 1, none⟩ (.int .i64 (M + u3))).alloc (.cells #[.int .i64 u1, .int .i64 u2, .int .i64 u3] 36)) := (Below.refl _ _).alloc (Nat.le_refl _) _
      have FI : Hid ((((wr.setCell ⟨w2.heap.size, 0, none⟩ (.int .i64 (C + u2))).setCell ⟨w2.heap.size, 1, none⟩ (.int .i64 (M + u3))).alloc (.cells #[.int .i64 u1, .int .i64 u2, .int .i64 u3] 36)).cell? ⟨w2.heap.size, 0, none⟩ = some (.int .i64 (C + u2)) ∧ (((wr.setCell ⟨w2.heap.size, 0, none⟩ (.int .i64 (C + u2))).setCell ⟨w2.heap.size, 1, none⟩ (.int .i64 (M + u3))).alloc (.cells #[.int .i64 u1, .int .i64 u2, .int .i64 u3] 36)).cell? ⟨w2.heap.size, 1, none⟩ = some (.int .i64 (M + u3)) ∧ (((wr.setCell ⟨w2.heap.size, 0, none⟩ (.int .i64 (C + u2))).setCell ⟨w2.heap.size, 1, none⟩ (.int .i64 (M + u3))).alloc (.cells #[.int .i64 u1, .int .i64 u2, .int .i64 u3] 36)).frozen? ⟨w2.heap.size, 0, none⟩ = false ∧ (((wr.setCell ⟨w2.heap.size, 0, none⟩ (.int .i64 (C + u2))).setCell ⟨w2.heap.size, 1, none⟩ (.int .i64 (M + u3))).alloc (.cells #[.int .i64 u1, .int .i64 u2, .int .i64 u3] 36)).frozen? ⟨w2.heap.size, 1, none⟩ = false) := ⟨keepc BT z0, keepc BT z1, keepf BT z0 (by rw [World.frozen?_setCell, World.frozen?_setCell]; exact f0), keepf BT z1 (by rw [World.frozen?_setCell, World.frozen?_setCell]; exact f1)⟩
      have ka : (0 : Int) ≤ (k : Int) := by omega
      have kb : (k : Int) < (n : Int) := by omega
      have BX0 := (hB.out.setCell (p := ⟨w2.heap.size, 0, none⟩) (Nat.le_refl _) (.int .i64 (C + u2))).setCell (p := ⟨w2.heap.size, 1, none⟩) (Nat.le_refl _) (.int .i64 (M + u3))
      have BX := hid (BX0.alloc BX0.size (.cells #[.int .i64 u1, .int .i64 u2, .int .i64 u3] 36))
      clear hrow r0 r1 f0 f1 hA BA BS BT z0 z1 s1 s2 BX0
      go_wp2
      go_roundw
      case rel =>
        refine ⟨k + 1, by omega, by go_num, ?_, BX⟩
        rw [ST.out]
        exact FI.out
      case measure => simp [intOf]; omega
    · have tk : us.take k = us := List.take_of_length_le (by rw [UL.out]; omega)
      rw [tk] at hA
      have UU := hid (U2.out.below hB.out)
      have QQ := hid (H2.out.below hB.out)
      have MW : Hid (∀ j, j < len → wr.cell? ⟨mb, mo + j * 2, none⟩ = some (.int .i64 (vecAt l us j).1) ∧ wr.cell? ⟨mb, mo + j * 2 + 1, none⟩ = some (.int .i64 (vecAt l us j).2)) := fun j hj => by
        have := MM.out j hj
        rw [va_vecs hj] at this
        exact ⟨keepc hB.out this.1, keepc hB.out this.2⟩
      have BW := hid (B2.out.trans (hB.out.mono B2.out.size))
      generalize hA7 : w2.heap.size = A7 at *
      clear tk hB st MM U2 H2 B2
      clear hA7
      go_wp2_with fail
      rename World => w3
      go_loopw [60] (fun i wr => ∃ k : Nat, k ≤ len ∧ i = .int .i64 k ∧ Hid (Below w3.heap.size w3 wr)) (fun i _ => len - (intOf i).toNat)
      case atStart => exact ⟨0, by omega, rfl, Below.refl _ _⟩
      case round =>
        obtain ⟨i, hi, rfl, hB2⟩ := hrel
        by_cases hlt2 : i < len
        · have hil : i < l.length := by rw [HL.out]; exact hlt2
          have HR4 := hid ((rowq QQ.out hp).below hB2.out)
          obtain ⟨c0, c1, c2', c3, c4, c5, c6⟩ := HR4.out.2 i hil
          have OS := hid (fun k hk => own_step FP.out RT.out hil (k := k) hk)
          have OK := hid (fun k => own_ok RT.out FT.out hil k)
          have KB := hid (kid_bound FT.out (us := us) (qa l i).id)
          have KZ := hid (kidN_zero (l := l) (i := i))
          have KA := hid (fun hk => kid_all FP.out RT.out hil hk)
          have OL : Hid (leafB l (qa l i).id = true → ownAt l us i = vecAt l us i) := fun h => by unfold ownAt; rw [if_pos h]
          have MI := hid (MW.out i hlt2)
          have AI : Hid (i = 0 → vecAt l us i = vecAt l us 0) := fun h => by rw [h]
          have BW4 := hid (BW.out.trans (hB2.out.mono BW.out.size))
          have UU4 := hid (UU.out.below hB2.out)
          have MW4 : Hid (∀ j, j < len → wr.cell? ⟨mb, mo + j * 2, none⟩ = some (.int .i64 (vecAt l us j).1) ∧ wr.cell? ⟨mb, mo + j * 2 + 1, none⟩ = some (.int .i64 (vecAt l us j).2)) := fun j hj => ⟨keepc hB2.out (MW.out j hj).1, keepc hB2.out (MW.out j hj).2⟩
          have A4 : Hid (wr.cell? ⟨A7, 0, none⟩ = some (.int .i64 (vecAt l us 0).1) ∧ wr.cell? ⟨A7, 1, none⟩ = some (.int .i64 (vecAt l us 0).2) ∧ wr.frozen? ⟨A7, 0, none⟩ = false ∧ wr.frozen? ⟨A7, 1, none⟩ = false) := ⟨keepc hB2.out hA.out.1, keepc hB2.out hA.out.2.1, keepf hB2.out hA.out.1 hA.out.2.2.1, keepf hB2.out hA.out.2.1 hA.out.2.2.2⟩
          generalize qa l i = q at *
          obtain ⟨q1, q2, q3, q4, q5, q6, q7⟩ := q
          simp only at *
          have ia : (0 : Int) ≤ (i : Int) := by omega
          have ib : (i : Int) < (len : Int) := by omega
          clear FP FT RT MW hA UU BW
          go_wp2_with fail
          clear c0 c1 c2' c3 c4 c5 c6
          rename World => w4
          have hB04 : Below w4.heap.size w4 (((w4.alloc (.cells #[.int .i64 q1, .int .i64 q2, .int .i64 q3, .int .i64 q4, .int .i64 q5, .int .i64 q6, .int .i64 q7] 38)).alloc (.cells #[.int .i64 0, .int .i64 0] 25)).alloc (.cells #[.int .i64 0, .int .i64 0] 25)) := (((Below.refl _ w4).alloc (Nat.le_refl _) _).alloc (by simp) _).alloc (by simp; omega) _
          go_loopw [67] (fun x wr => ∃ k : Nat, k ≤ n ∧ x = .int .i64 k ∧ Hid (wr.cell? ⟨w4.heap.size, 0, none⟩ = some (.int .i64 q1)) ∧ Hid (wr.cell? ⟨w4.heap.size + 1, 0, none⟩ = some (.int .i64 (ownAt l (us.take k) i).1) ∧ wr.cell? ⟨w4.heap.size + 1, 1, none⟩ = some (.int .i64 (ownAt l (us.take k) i).2) ∧ wr.frozen? ⟨w4.heap.size + 1, 0, none⟩ = false ∧ wr.frozen? ⟨w4.heap.size + 1, 1, none⟩ = false) ∧ Hid (wr.cell? ⟨w4.heap.size + 1 + 1, 0, none⟩ = some (.int .i64 0) ∧ wr.cell? ⟨w4.heap.size + 1 + 1, 1, none⟩ = some (.int .i64 0) ∧ wr.frozen? ⟨w4.heap.size + 1 + 1, 0, none⟩ = false ∧ wr.frozen? ⟨w4.heap.size + 1 + 1, 1, none⟩ = false) ∧ Hid (Below w4.heap.size w4 wr)) (fun x _ => n - (intOf x).toNat)
          case atStart =>
            have e0 : ownAt l (us.take 0) i = (0, 0) := by unfold ownAt; split <;> rfl
            refine ⟨0, by omega, rfl, ?_, ?_, ?_, hB04⟩
            · unfold Hid; simp [go_sem]
            · rw [e0]; unfold Hid; simp [go_sem]
            · unfold Hid; simp [go_sem]
          case round =>
            obtain ⟨k, hk, rfl, x1, x2, x3, hB5⟩ := hrel
            by_cases hlt3 : k < n
            · have hlt' : k < us.length := by rw [UL.out]; exact hlt3
              obtain ⟨vb, vo, rfl, hrow⟩ := UU4.out.rowU (by omega)
              obtain ⟨c0, c1, c2'⟩ := hrow k hlt3
              replace c0 := keepc hB5.out c0
              replace c1 := keepc hB5.out c1
              replace c2' := keepc hB5.out c2'
              have ST := hid (OS.out k hlt')
              have ok0 := okv_true (OK.out (k + 1))
              obtain ⟨r0, r1, f0, f1⟩ := x2.out
              have rq := x1.out
              obtain ⟨s0, s1, t0, t1⟩ := x3.out
              have hAw := cell_lt s0
              simp only at hAw
              rw [ST.out] at ok0
              generalize ownAt l (us.take k) i = V at *
              obtain ⟨C, M⟩ := V
              generalize ua us k = u at *
              obtain ⟨u1, u2, u3⟩ := u
              simp only at *
              have ka : (0 : Int) ≤ (k : Int) := by omega
              have kb : (k : Int) < (n : Int) := by omega
              have BA : Below wr.heap.size wr (wr.alloc (.cells #[.int .i64 u1, .int .i64 u2, .int .i64 u3] 36)) := (Below.refl _ wr).alloc (Nat.le_refl _) _
              have y1 := keepc BA rq
              by_cases e : u1 = q1
              · have te : (u1 == q1) = true := by simpa using e
                rw [if_pos e] at ST ok0
                unfold okp at ok0
                simp only at ok0
                have hw1 : IntKind.i64.wrap (C + u2) = C + u2 := by rw [IntKind.wrap_i64]; omega
                have hw2 : IntKind.i64.wrap (M + u3) = M + u3 := by rw [IntKind.wrap_i64]; omega
                have y2 := keepc BA r0
                have y3 := keepc BA r1
                have y4 := keepf BA r0 f0
                have y5 := keepf BA r1 f1
                have y6 : ((wr.alloc (.cells #[.int .i64 u1, .int .i64 u2, .int .i64 u3] 36)).setCell ⟨w4.heap.size + 1, 0, none⟩ (.int .i64 (C + u2))).cell? ⟨w4.heap.size + 1, 1, none⟩ = some (.int .i64 M) := (World.cell?_setCell_other _ _ _ _ (by simp)).trans y3
                have y7 : ((wr.alloc (.cells #[.int .i64 u1, .int .i64 u2, .int .i64 u3] 36)).setCell ⟨w4.heap.size + 1, 0, none⟩ (.int .i64 (C + u2))).frozen? ⟨w4.heap.size + 1, 1, none⟩ = false := by rw [World.frozen?_setCell]; exact y5
                have y8 : ((wr.alloc (.cells #[.int .i64 u1, .int .i64 u2, .int .i64 u3] 36)).setCell ⟨w4.heap.size + 1, 0, none⟩ (.int .i64 (C + u2))).cell? ⟨wr.heap.size, 2, none⟩ = some (.int .i64 u3) := (World.cell?_setCell_other _ _ _ _ (by simp <;> omega)).trans (by simp [go_sem])
                have R2 := hid (set2_new (p := C + u2) (q := M + u3) y2 y3 y4 y5)
                have R1 := hid (set2_keep (b := w4.heap.size + 1) (p := .int .i64 (C + u2)) (q := .int .i64 (M + u3)) y1 (by omega))
                have Q0 := set2_keep (b := w4.heap.size + 1) (p := .int .i64 (C + u2)) (q := .int .i64 (M + u3)) (keepc BA s0) (by omega)
                have Q1 := set2_keep (b := w4.heap.size + 1) (p := .int .i64 (C + u2)) (q := .int .i64 (M + u3)) (keepc BA s1) (by omega)
                have Q2 := set2_froz (b := w4.heap.size + 1) (p := .int .i64 (C + u2)) (q := .int .i64 (M + u3)) (keepf BA s0 t0)
                have Q3 := set2_froz (b := w4.heap.size + 1) (p := .int .i64 (C + u2)) (q := .int .i64 (M + u3)) (keepf BA s1 t1)
                have R3 := hid (And.intro Q0 (And.intro Q1 (And.intro Q2 Q3)))
                have R4 := hid (set2_below (b := w4.heap.size + 1) (p := .int .i64 (C + u2)) (q := .int .i64 (M + u3)) (hB5.out.alloc hB5.out.size (.cells #[.int .i64 u1, .int .i64 u2, .int .i64 u3] 36)) (by omega))
                clear Q0 Q1 Q2 Q3 BA r0 r1 f0 f1 rq s0 s1 t0 t1 hrow x1 x2 x3 e
                go_wp2
                go_roundw
                case rel => exact ⟨k + 1, by omega, by go_num, R1, by rw [ST.out]; exact R2, R3, R4⟩
                case measure => simp [intOf]; omega
              · have te : (u1 == q1) = false := by simpa using e
                rw [if_neg e] at ST
                have R1 := hid y1
                have R2 := hid (And.intro (keepc BA r0) (And.intro (keepc BA r1) (And.intro (keepf BA r0 f0) (keepf BA r1 f1))))
                have R3 := hid (And.intro (keepc BA s0) (And.intro (keepc BA s1) (And.intro (keepf BA s0 t0) (keepf BA s1 t1))))
                have R4 := hid (hB5.out.alloc hB5.out.size (.cells #[.int .i64 u1, .int .i64 u2, .int .i64 u3] 36))
                clear BA r0 r1 f0 f1 rq s0 s1 t0 t1 hrow x1 x2 x3 e
                go_wp2
                go_roundw
                case rel => exact ⟨k + 1, by omega, by go_num, R1, by rw [ST.out]; exact R2, R3, R4⟩
                case measure => simp [intOf]; omega

            · have tk : us.take k = us := List.take_of_length_le (by rw [UL.out]; omega)
              rw [tk] at x2
              clear tk
              go_wp2_with fail
              rename World => w5
              go_loopw [93, 14] (fun x c wr => ∃ k : Nat, k ≤ len ∧ x = .int .i64 k ∧ c = .int .i64 (kidN l q1 k) ∧ Hid (wr.cell? ⟨w4.heap.size, 0, none⟩ = some (.int .i64 q1)) ∧ Hid (wr.cell? ⟨w4.heap.size + 1, 0, none⟩ = some (.int .i64 (ownAt l us i).1) ∧ wr.cell? ⟨w4.heap.size + 1, 1, none⟩ = some (.int .i64 (ownAt l us i).2) ∧ wr.frozen? ⟨w4.heap.size + 1, 0, none⟩ = false ∧ wr.frozen? ⟨w4.heap.size + 1, 1, none⟩ = false) ∧ Hid (wr.cell? ⟨w4.heap.size + 1 + 1, 0, none⟩ = some (.int .i64 (kidC l us q1 k)) ∧ wr.cell? ⟨w4.heap.size + 1 + 1, 1, none⟩ = some (.int .i64 (kidM l us q1 k)) ∧ wr.frozen? ⟨w4.heap.size + 1 + 1, 0, none⟩ = false ∧ wr.frozen? ⟨w4.heap.size + 1 + 1, 1, none⟩ = false) ∧ Hid (Below w4.heap.size w4 wr)) (fun x _ _ => len - (intOf x).toNat)
              case atStart => exact ⟨0, by omega, rfl, rfl, x1, x2, x3, hB5⟩
              case round =>
                clear x1 x2 x3 hB5
                obtain ⟨j, hj, rfl, rfl, x1, x2, x3, hB5⟩ := hrel
                by_cases hlt4 : j < len
                · have hjl : j < l.length := by rw [HL.out]; exact hlt4
                  obtain ⟨c0, c1, c2', c3, c4, c5, c6⟩ := (HR4.out.below hB5.out).2 j hjl
                  obtain ⟨m0, m1⟩ := MW4.out j hlt4
                  have hmb := cell_lt m0
                  simp only at hmb
                  replace m0 := keepc hB5.out m0
                  replace m1 := keepc hB5.out m1
                  have kb1 := KB.out (j + 1) (by omega)
                  have NX : Hid (kidC l us q1 (j + 1) = kidC l us q1 j + (if (qa l j).par = q1 then (vecAt l us j).1 else 0) ∧ kidM l us q1 (j + 1) = kidM l us q1 j + (if (qa l j).par = q1 then (vecAt l us j).2 else 0) ∧ kidN l q1 (j + 1) = kidN l q1 j + (if (qa l j).par = q1 then 1 else 0)) := ⟨rfl, rfl, rfl⟩
                  rw [NX.out.1, NX.out.2.1, NX.out.2.2] at kb1
                  obtain ⟨o0, o1, g0, g1⟩ := x2.out
                  have rq := x1.out
                  obtain ⟨s0, s1, t0, t1⟩ := x3.out
                  have hAw := cell_lt s0
                  simp only at hAw
                  generalize vecAt l us j = X at *
                  obtain ⟨X1, X2⟩ := X
                  generalize qa l j = r at *
                  obtain ⟨r1, r2, r3, r4, r5, r6, r7⟩ := r
                  simp only at *
                  have BA : Below wr.heap.size wr (wr.alloc (.cells #[.int .i64 r1, .int .i64 r2, .int .i64 r3, .int .i64 r4, .int .i64 r5, .int .i64 r6, .int .i64 r7] 38)) := (Below.refl _ wr).alloc (Nat.le_refl _) _
                  have ja : (0 : Int) ≤ (j : Int) := by omega
                  have jb : (j : Int) < (len : Int) := by omega
                  have y1 := keepc BA rq
                  by_cases e : r2 = q1
                  · have te : (r2 == q1) = true := by simpa using e
                    simp only [if_pos e] at NX kb1
                    generalize kidC l us q1 j = KC at *
                    generalize kidM l us q1 j = KM at *
                    generalize kidN l q1 j = KN at *
                    have hw1 : IntKind.i64.wrap (KC + X1) = KC + X1 := by rw [IntKind.wrap_i64]; omega
                    have hw2 : IntKind.i64.wrap (KM + X2) = KM + X2 := by rw [IntKind.wrap_i64]; omega
                    have hw3 : IntKind.i64.wrap (KN + 1) = KN + 1 := by rw [IntKind.wrap_i64]; omega
                    have y2 := keepc BA s0
                    have y3 := keepc BA s1
                    have y4 := keepf BA s0 t0
                    have y5 := keepf BA s1 t1
                    have Y2 := hid (And.intro (keepc BA o0) (And.intro (keepc BA o1) (And.intro (keepf BA o0 g0) (keepf BA o1 g1))))
                    have BB := hid (hB5.out.alloc hB5.out.size (.cells #[.int .i64 r1, .int .i64 r2, .int .i64 r3, .int .i64 r4, .int .i64 r5, .int .i64 r6, .int .i64 r7] 38))
                    replace m0 := keepc BA m0
                    replace m1 := keepc BA m1
                    clear o0 o1 g0 g1 rq s0 s1 t0 t1 x1 x2 x3 e hB5
                    go_wp2_with fail
                    clear c0 c1 c2' c3 c4 c5 c6 BA
                    have Y1 := hid y1
                    clear y1
                    generalize (wr.alloc (.cells #[.int .i64 r1, .int .i64 r2, .int .i64 r3, .int .i64 r4, .int .i64 r5, .int .i64 r6, .int .i64 r7] 38)) = w6 at *
                    refine wp_region_held_drew (S := (fun w' => w'.cell? ⟨mb, mo + j * 2, none⟩ = some (.int .i64 X1) ∧ w'.cell? ⟨mb, mo + j * 2 + 1, none⟩ = some (.int .i64 X2))) (by kernel_rfl) ⟨m0, m1⟩ (fun hHeld => ?_)
                    refine wpAnyH_take (i := 0) (v := .pointer (some ⟨w4.heap.size + 1 + 1, 0, none⟩)) rfl (by kernel_rfl) (by kernel_rfl) (by kernel_rfl) (fun _ _ _ h => h) (Or.inl ⟨by rfl, ?_⟩) (by assumption) ?_
                    · (intro w hSw; (try dsimp only at hSw); go_simp)
                    (try simp only [Act.put, List.getElem_toArray, List.getElem_cons_succ, List.getElem_cons_zero, List.setIfInBounds_toArray, List.set_cons_zero, List.set_cons_succ])
                    refine wpAnyH_take (i := 2) (v := .slice (some ⟨mb, mo, none⟩) len c2) rfl (by kernel_rfl) (by kernel_rfl) (by kernel_rfl) (fun _ _ _ h => h) (Or.inl ⟨by rfl, ?_⟩) (by assumption) ?_
                    · (intro w hSw; (try dsimp only at hSw); go_simp)
                    (try simp only [Act.put, List.getElem_toArray, List.getElem_cons_succ, List.getElem_cons_zero, List.setIfInBounds_toArray, List.set_cons_zero, List.set_cons_succ])
                    refine wpAnyH_take (i := 3) (v := .int .i64 (j : Int)) rfl (by kernel_rfl) (by kernel_rfl) (by kernel_rfl) (fun _ _ _ h => h) (Or.inl ⟨by rfl, ?_⟩) (by assumption) ?_
                    · (intro w hSw; (try dsimp only at hSw); go_simp)
                    (try simp only [Act.put, List.getElem_toArray, List.getElem_cons_succ, List.getElem_cons_zero, List.setIfInBounds_toArray, List.set_cons_zero, List.set_cons_succ])
                    refine wpAnyH_take (i := 4) (v := .pointer (some ⟨mb, mo + j * 2, none⟩)) rfl (by kernel_rfl) (by kernel_rfl) (by kernel_rfl) (fun _ _ _ h => h) (Or.inl ⟨by rfl, ?_⟩) (by assumption) ?_
                    · (intro w hSw; (try dsimp only at hSw); go_simp)
                    (try simp only [Act.put, List.getElem_toArray, List.getElem_cons_succ, List.getElem_cons_zero, List.setIfInBounds_toArray, List.set_cons_zero, List.set_cons_succ])
                    refine wpAnyH_take (i := 5) (v := .pointer (some ⟨mb, mo + j * 2, none⟩)) rfl (by kernel_rfl) (by kernel_rfl) (by kernel_rfl) (fun _ _ _ h => h) (Or.inl ⟨by rfl, ?_⟩) (by assumption) ?_
                    · (intro w hSw; (try dsimp only at hSw); go_simp)
                    (try simp only [Act.put, List.getElem_toArray, List.getElem_cons_succ, List.getElem_cons_zero, List.setIfInBounds_toArray, List.set_cons_zero, List.set_cons_succ])
                    refine wpAnyH_take (i := 6) (v := .int .i64 X1) rfl (by kernel_rfl) (by kernel_rfl) (by kernel_rfl) (fun _ _ _ h => h) (Or.inl ⟨by rfl, ?_⟩) (by assumption) ?_
                    · (intro w hSw; (try dsimp only at hSw); go_simp)
                    (try simp only [Act.put, List.getElem_toArray, List.getElem_cons_succ, List.getElem_cons_zero, List.setIfInBounds_toArray, List.set_cons_zero, List.set_cons_succ])
                    refine wpAnyH_ready (rs := [1]) (by kernel_rfl) (by simp) ?_
                    refine AllReadyH.cons rfl (fun K hK => ?_) AllReadyH.nil
                    go_simp
                    refine hK.out _ _ ⟨m0, m1⟩ (fun hHeld => ?_)
                    clear hK K
                    (try simp only [Act.put, List.getElem_toArray, List.getElem_cons_succ, List.getElem_cons_zero, List.setIfInBounds_toArray, List.set_cons_zero, List.set_cons_succ])
                    refine wpAnyH_take (i := 7) (v := .int .i64 (KC + X1)) rfl (by kernel_rfl) (by kernel_rfl) (by kernel_rfl) (fun _ _ _ h => h) (Or.inl ⟨by rfl, ?_⟩) (by assumption) ?_
                    · (intro w hSw; (try dsimp only at hSw); go_simp)
                    (try simp only [Act.put, List.getElem_toArray, List.getElem_cons_succ, List.getElem_cons_zero, List.setIfInBounds_toArray, List.set_cons_zero, List.set_cons_succ])
                    refine wpAnyH_take (i := 8) (v := .pointer (some ⟨w4.heap.size + 1 + 1, 0, none⟩)) rfl (by kernel_rfl) (by kernel_rfl) (by kernel_rfl) (fun _ _ _ h => h) (Or.inl ⟨by rfl, ?_⟩) (by assumption) ?_
                    · (intro w hSw; (try dsimp only at hSw); go_simp)
                    (try simp only [Act.put, List.getElem_toArray, List.getElem_cons_succ, List.getElem_cons_zero, List.setIfInBounds_toArray, List.set_cons_zero, List.set_cons_succ])
                    refine wpAnyH_ready (rs := [9]) (by kernel_rfl) (by simp) ?_
                    refine AllReadyH.cons rfl (fun K hK => ?_) AllReadyH.nil
                    go_simp
                    refine absW (p := fun wx => wx.cell? ⟨w4.heap.size + 1 + 1, 0, none⟩ = some (.int .i64 (KC + X1)) ∧ wx.cell? ⟨w4.heap.size + 1 + 1, 1, none⟩ = some (.int .i64 KM) ∧ wx.frozen? ⟨w4.heap.size + 1 + 1, 0, none⟩ = false ∧ wx.frozen? ⟨w4.heap.size + 1 + 1, 1, none⟩ = false ∧ wx.cell? ⟨w4.heap.size, 0, none⟩ = some (.int .i64 q1) ∧ (wx.cell? ⟨w4.heap.size + 1, 0, none⟩ = some (.int .i64 (ownAt l us i).1) ∧ wx.cell? ⟨w4.heap.size + 1, 1, none⟩ = some (.int .i64 (ownAt l us i).2) ∧ wx.frozen? ⟨w4.heap.size + 1, 0, none⟩ = false ∧ wx.frozen? ⟨w4.heap.size + 1, 1, none⟩ = false) ∧ wx.cell? ⟨mb, mo + j * 2, none⟩ = some (.int .i64 X1) ∧ wx.cell? ⟨mb, mo + j * 2 + 1, none⟩ = some (.int .i64 X2) ∧ Below w4.heap.size w4 wx) ⟨World.cell?_setCell_same' _ _ _ (by rw [y2]; rfl), (World.cell?_setCell_other _ _ _ _ (by simp <;> omega)).trans y3, (show (w6.setCell ⟨w4.heap.size + 1 + 1, 0, none⟩ (.int .i64 (KC + X1))).frozen? _ = false from by rw [World.frozen?_setCell]; exact y4), (show (w6.setCell ⟨w4.heap.size + 1 + 1, 0, none⟩ (.int .i64 (KC + X1))).frozen? _ = false from by rw [World.frozen?_setCell]; exact y5), (World.cell?_setCell_other _ _ _ _ (by simp <;> omega)).trans Y1.out, ⟨(World.cell?_setCell_other _ _ _ _ (by simp <;> omega)).trans Y2.out.1, (World.cell?_setCell_other _ _ _ _ (by simp <;> omega)).trans Y2.out.2.1, (show (w6.setCell ⟨w4.heap.size + 1 + 1, 0, none⟩ (.int .i64 (KC + X1))).frozen? _ = false from by rw [World.frozen?_setCell]; exact Y2.out.2.2.1), (show (w6.setCell ⟨w4.heap.size + 1 + 1, 0, none⟩ (.int .i64 (KC + X1))).frozen? _ = false from by rw [World.frozen?_setCell]; exact Y2.out.2.2.2)⟩, (World.cell?_setCell_other _ _ _ _ (by simp <;> omega)).trans m0, (World.cell?_setCell_other _ _ _ _ (by simp <;> omega)).trans m1, (BB.out.setCell (p := ⟨w4.heap.size + 1 + 1, 0, none⟩) (by simp <;> omega) _).drew⟩ ?_
                    clear y2 y3 y4 y5 Y1 Y2 m0 m1 BB hHeld
                    rintro w7 ⟨y2, y3, y4, y5, Y1, Y2, m0, m1, BB⟩
                    replace Y1 := hid Y1
                    replace Y2 := hid Y2
                    replace BB := hid BB
                    refine hK.out _ _ ⟨m0, m1⟩ (fun hHeld => ?_)
                    clear hK K
                    (try simp only [Act.put, List.getElem_toArray, List.getElem_cons_succ, List.getElem_cons_zero, List.setIfInBounds_toArray, List.set_cons_zero, List.set_cons_succ])
                    refine wpAnyH_done (by kernel_rfl) ?_ _
                    go_wp2_with fail
                    refine wp_region_held_drew (S := (fun w' => w'.cell? ⟨mb, mo + j * 2, none⟩ = some (.int .i64 X1) ∧ w'.cell? ⟨mb, mo + j * 2 + 1, none⟩ = some (.int .i64 X2))) (by kernel_rfl) ⟨m0, m1⟩ (fun hHeld => ?_)
                    refine wpAnyH_take (i := 0) (v := .pointer (some ⟨w4.heap.size + 1 + 1, 1, none⟩)) rfl (by kernel_rfl) (by kernel_rfl) (by kernel_rfl) (fun _ _ _ h => h) (Or.inl ⟨by rfl, ?_⟩) (by assumption) ?_
                    · (intro w hSw; (try dsimp only at hSw); go_simp)
                    (try simp only [Act.put, List.getElem_toArray, List.getElem_cons_succ, List.getElem_cons_zero, List.setIfInBounds_toArray, List.set_cons_zero, List.set_cons_succ])
                    refine wpAnyH_take (i := 2) (v := .slice (some ⟨mb, mo, none⟩) len c2) rfl (by kernel_rfl) (by kernel_rfl) (by kernel_rfl) (fun _ _ _ h => h) (Or.inl ⟨by rfl, ?_⟩) (by assumption) ?_
                    · (intro w hSw; (try dsimp only at hSw); go_simp)
                    (try simp only [Act.put, List.getElem_toArray, List.getElem_cons_succ, List.getElem_cons_zero, List.setIfInBounds_toArray, List.set_cons_zero, List.set_cons_succ])
                    refine wpAnyH_take (i := 3) (v := .int .i64 (j : Int)) rfl (by kernel_rfl) (by kernel_rfl) (by kernel_rfl) (fun _ _ _ h => h) (Or.inl ⟨by rfl, ?_⟩) (by assumption) ?_
                    · (intro w hSw; (try dsimp only at hSw); go_simp)
                    (try simp only [Act.put, List.getElem_toArray, List.getElem_cons_succ, List.getElem_cons_zero, List.setIfInBounds_toArray, List.set_cons_zero, List.set_cons_succ])
                    refine wpAnyH_take (i := 4) (v := .pointer (some ⟨mb, mo + j * 2, none⟩)) rfl (by kernel_rfl) (by kernel_rfl) (by kernel_rfl) (fun _ _ _ h => h) (Or.inl ⟨by rfl, ?_⟩) (by assumption) ?_
                    · (intro w hSw; (try dsimp only at hSw); go_simp)
                    (try simp only [Act.put, List.getElem_toArray, List.getElem_cons_succ, List.getElem_cons_zero, List.setIfInBounds_toArray, List.set_cons_zero, List.set_cons_succ])
                    refine wpAnyH_take (i := 5) (v := .pointer (some ⟨mb, mo + j * 2 + 1, none⟩)) rfl (by kernel_rfl) (by kernel_rfl) (by kernel_rfl) (fun _ _ _ h => h) (Or.inl ⟨by rfl, ?_⟩) (by assumption) ?_
                    · (intro w hSw; (try dsimp only at hSw); go_simp)
                    (try simp only [Act.put, List.getElem_toArray, List.getElem_cons_succ, List.getElem_cons_zero, List.setIfInBounds_toArray, List.set_cons_zero, List.set_cons_succ])
                    refine wpAnyH_take (i := 6) (v := .int .i64 X2) rfl (by kernel_rfl) (by kernel_rfl) (by kernel_rfl) (fun _ _ _ h => h) (Or.inl ⟨by rfl, ?_⟩) (by assumption) ?_
                    · (intro w hSw; (try dsimp only at hSw); go_simp)
                    (try simp only [Act.put, List.getElem_toArray, List.getElem_cons_succ, List.getElem_cons_zero, List.setIfInBounds_toArray, List.set_cons_zero, List.set_cons_succ])
                    refine wpAnyH_ready (rs := [1]) (by kernel_rfl) (by simp) ?_
                    refine AllReadyH.cons rfl (fun K hK => ?_) AllReadyH.nil
                    go_simp
                    refine hK.out _ _ ⟨m0, m1⟩ (fun hHeld => ?_)
                    clear hK K
                    (try simp only [Act.put, List.getElem_toArray, List.getElem_cons_succ, List.getElem_cons_zero, List.setIfInBounds_toArray, List.set_cons_zero, List.set_cons_succ])
                    refine wpAnyH_take (i := 7) (v := .int .i64 (KM + X2)) rfl (by kernel_rfl) (by kernel_rfl) (by kernel_rfl) (fun _ _ _ h => h) (Or.inl ⟨by rfl, ?_⟩) (by assumption) ?_
                    · (intro w hSw; (try dsimp only at hSw); go_simp)
                    (try simp only [Act.put, List.getElem_toArray, List.getElem_cons_succ, List.getElem_cons_zero, List.setIfInBounds_toArray, List.set_cons_zero, List.set_cons_succ])
                    refine wpAnyH_take (i := 8) (v := .pointer (some ⟨w4.heap.size + 1 + 1, 1, none⟩)) rfl (by kernel_rfl) (by kernel_rfl) (by kernel_rfl) (fun _ _ _ h => h) (Or.inl ⟨by rfl, ?_⟩) (by assumption) ?_
                    · (intro w hSw; (try dsimp only at hSw); go_simp)
                    (try simp only [Act.put, List.getElem_toArray, List.getElem_cons_succ, List.getElem_cons_zero, List.setIfInBounds_toArray, List.set_cons_zero, List.set_cons_succ])
                    refine wpAnyH_ready (rs := [9]) (by kernel_rfl) (by simp) ?_
                    refine AllReadyH.cons rfl (fun K hK => ?_) AllReadyH.nil
                    go_simp
                    refine absW (p := fun wx => wx.cell? ⟨w4.heap.size + 1 + 1, 0, none⟩ = some (.int .i64 (KC + X1)) ∧ wx.cell? ⟨w4.heap.size + 1 + 1, 1, none⟩ = some (.int .i64 (KM + X2)) ∧ wx.frozen? ⟨w4.heap.size + 1 + 1, 0, none⟩ = false ∧ wx.frozen? ⟨w4.heap.size + 1 + 1, 1, none⟩ = false ∧ wx.cell? ⟨w4.heap.size, 0, none⟩ = some (.int .i64 q1) ∧ (wx.cell? ⟨w4.heap.size + 1, 0, none⟩ = some (.int .i64 (ownAt l us i).1) ∧ wx.cell? ⟨w4.heap.size + 1, 1, none⟩ = some (.int .i64 (ownAt l us i).2) ∧ wx.frozen? ⟨w4.heap.size + 1, 0, none⟩ = false ∧ wx.frozen? ⟨w4.heap.size + 1, 1, none⟩ = false) ∧ wx.cell? ⟨mb, mo + j * 2, none⟩ = some (.int .i64 X1) ∧ wx.cell? ⟨mb, mo + j * 2 + 1, none⟩ = some (.int .i64 X2) ∧ Below w4.heap.size w4 wx) ⟨(World.cell?_setCell_other _ _ _ _ (by simp <;> omega)).trans y2, World.cell?_setCell_same' _ _ _ (by rw [y3]; rfl), (show (w7.setCell ⟨w4.heap.size + 1 + 1, 1, none⟩ (.int .i64 (KM + X2))).frozen? _ = false from by rw [World.frozen?_setCell]; exact y4), (show (w7.setCell ⟨w4.heap.size + 1 + 1, 1, none⟩ (.int .i64 (KM + X2))).frozen? _ = false from by rw [World.frozen?_setCell]; exact y5), (World.cell?_setCell_other _ _ _ _ (by simp <;> omega)).trans Y1.out, ⟨(World.cell?_setCell_other _ _ _ _ (by simp <;> omega)).trans Y2.out.1, (World.cell?_setCell_other _ _ _ _ (by simp <;> omega)).trans Y2.out.2.1, (show (w7.setCell ⟨w4.heap.size + 1 + 1, 1, none⟩ (.int .i64 (KM + X2))).frozen? _ = false from by rw [World.frozen?_setCell]; exact Y2.out.2.2.1), (show (w7.setCell ⟨w4.heap.size + 1 + 1, 1, none⟩ (.int .i64 (KM + X2))).frozen? _ = false from by rw [World.frozen?_setCell]; exact Y2.out.2.2.2)⟩, (World.cell?_setCell_other _ _ _ _ (by simp <;> omega)).trans m0, (World.cell?_setCell_other _ _ _ _ (by simp <;> omega)).trans m1, (BB.out.setCell (p := ⟨w4.heap.size + 1 + 1, 1, none⟩) (by simp <;> omega) _).drew⟩ ?_
                    clear y2 y3 y4 y5 Y1 Y2 m0 m1 BB hHeld
                    rintro w8 ⟨y2, y3, y4, y5, Y1, Y2, m0, m1, BB⟩
                    replace Y1 := hid Y1
                    replace Y2 := hid Y2
                    replace BB := hid BB
                    refine hK.out _ _ ⟨m0, m1⟩ (fun hHeld => ?_)
                    clear hK K
                    (try simp only [Act.put, List.getElem_toArray, List.getElem_cons_succ, List.getElem_cons_zero, List.setIfInBounds_toArray, List.set_cons_zero, List.set_cons_succ])
                    refine wpAnyH_done (by kernel_rfl) ?_ _
                    have FI := hid (And.intro y2 (And.intro y3 (And.intro y4 y5)))
                    clear y2 y3 y4 y5 m0 m1 hHeld
                    go_wp2
                    go_roundw
                    case rel => exact ⟨j + 1, by omega, by go_num, by rw [NX.out.2.2], Y1, Y2, by rw [NX.out.1, NX.out.2.1]; exact FI, BB⟩
                    case measure => simp [intOf]; omega
                  · have te : (r2 == q1) = false := by simpa using e
                    simp only [if_neg e, Int.add_zero] at NX
                    have R2 := hid (And.intro (keepc BA o0) (And.intro (keepc BA o1) (And.intro (keepf BA o0 g0) (keepf BA o1 g1))))
                    have R3 := hid (And.intro (keepc BA s0) (And.intro (keepc BA s1) (And.intro (keepf BA s0 t0) (keepf BA s1 t1))))
                    have R4 := hid (hB5.out.alloc hB5.out.size (.cells #[.int .i64 r1, .int .i64 r2, .int .i64 r3, .int .i64 r4, .int .i64 r5, .int .i64 r6, .int .i64 r7] 38))
                    have R1 := hid y1
                    clear BA o0 o1 g0 g1 rq s0 s1 t0 t1 x1 x2 x3 e m0 m1
                    go_wp2
                    go_roundw
                    case rel => exact ⟨j + 1, by omega, by go_num, by rw [NX.out.2.2], R1, R2, by rw [NX.out.1, NX.out.2.1]; exact R3, R4⟩
                    case measure => simp [intOf]; omega

                · have jl : j = l.length := by rw [HL.out]; omega
                  obtain ⟨i0, i1⟩ := MW4.out i hlt2
                  replace i0 := keepc hB5.out i0
                  replace i1 := keepc hB5.out i1
                  have a0 := keepc hB5.out A4.out.1
                  have a1 := keepc hB5.out A4.out.2.1
                  have BF := hid ((hB2.out.trans (hB5.out.mono hB2.out.size)).drew)
                  obtain ⟨o0, o1, _, _⟩ := x2.out
                  obtain ⟨s0, s1, _, _⟩ := x3.out
                  have kz := KZ.out
                  have kn := KB.out j (by omega)
                  rw [← jl] at kz KA
                  cases hlf : leafB l q1
                  · obtain ⟨ka, km⟩ := KA.out hlf
                    rw [ka] at s0
                    rw [km] at s1
                    have hne : kidN l q1 j ≠ 0 := fun e => by rw [kz.1 e] at hlf; cases hlf
                    generalize kidN l q1 j = CN at *
                    have t1 : (CN == 0) = false := by simpa using hne
                    have t2 : decide (0 < CN) = true := by simp; omega
                    generalize ownAt l us i = PP at *
                    obtain ⟨P1, P2⟩ := PP
                    clear KA OL OS OK KB KZ kz kn hne hlf x1 x2 x3 ka km hB5 A4 MI
                    by_cases hz : i = 0
                    · have ti : ((i : Int) == 0) = true := by simp; omega
                      rw [← AI.out hz] at a0 a1
                      clear hz AI
                      generalize vecAt l us i = VV at *
                      obtain ⟨V1, V2⟩ := VV
                      simp only at *
                      go_wp2_with fail
                      refine wp_region_held_drew (S := (fun w' => w'.cell? ⟨mb, mo + i * 2, none⟩ = some (.int .i64 V1) ∧ w'.cell? ⟨mb, mo + i * 2 + 1, none⟩ = some (.int .i64 V2) ∧ w'.cell? ⟨w4.heap.size + 1, 0, none⟩ = some (.int .i64 P1) ∧ w'.cell? ⟨w4.heap.size + 1, 1, none⟩ = some (.int .i64 P2) ∧ w'.cell? ⟨w4.heap.size + 1 + 1, 0, none⟩ = some (.int .i64 V1) ∧ w'.cell? ⟨w4.heap.size + 1 + 1, 1, none⟩ = some (.int .i64 V2) ∧ w'.cell? ⟨A7, 0, none⟩ = some (.int .i64 V1) ∧ w'.cell? ⟨A7, 1, none⟩ = some (.int .i64 V2))) (by kernel_rfl) ⟨drewc i0, drewc i1, drewc o0, drewc o1, drewc s0, drewc s1, drewc a0, drewc a1⟩ (fun hHeld => ?_)
                      refine wpAnyH_take (i := 0) (v := .int .i64 CN) rfl (by kernel_rfl) (by kernel_rfl) (by kernel_rfl) (fun _ _ _ h => h) (Or.inl ⟨by rfl, ?_⟩) (by assumption) ?_
                      · (intro w hSw; (try dsimp only at hSw); go_simp)
                      (try simp only [Act.put, List.getElem_toArray, List.getElem_cons_succ, List.getElem_cons_zero, List.setIfInBounds_toArray, List.set_cons_zero, List.set_cons_succ])
                      refine wpAnyH_take (i := 1) (v := .bool false) rfl (by kernel_rfl) (by kernel_rfl) (by kernel_rfl) (fun _ _ _ h => h) (Or.inl ⟨by rfl, ?_⟩) (by assumption) ?_
                      · (intro w hSw; (try dsimp only at hSw); go_simp)
                      (try simp only [Act.put, List.getElem_toArray, List.getElem_cons_succ, List.getElem_cons_zero, List.setIfInBounds_toArray, List.set_cons_zero, List.set_cons_succ])
                      refine wpAnyH_take (i := 2) (v := .bool false) rfl (by kernel_rfl) (by kernel_rfl) (by kernel_rfl) (fun _ _ _ h => h) (Or.inl ⟨by rfl, ?_⟩) (by assumption) ?_
                      · (intro w hSw; (try dsimp only at hSw); go_simp)
                      (try simp only [Act.put, List.getElem_toArray, List.getElem_cons_succ, List.getElem_cons_zero, List.setIfInBounds_toArray, List.set_cons_zero, List.set_cons_succ])
                      refine wpAnyH_take (i := 3) (v := undef) rfl (by kernel_rfl) (by kernel_rfl) (by kernel_rfl) (fun _ _ _ h => h) (Or.inr ⟨by rfl, rfl⟩) (by assumption) ?_
                      (try simp only [Act.put, List.getElem_toArray, List.getElem_cons_succ, List.getElem_cons_zero, List.setIfInBounds_toArray, List.set_cons_zero, List.set_cons_succ])
                      refine wpAnyH_take (i := 4) (v := undef) rfl (by kernel_rfl) (by kernel_rfl) (by kernel_rfl) (fun _ _ _ h => h) (Or.inr ⟨by rfl, rfl⟩) (by assumption) ?_
                      (try simp only [Act.put, List.getElem_toArray, List.getElem_cons_succ, List.getElem_cons_zero, List.setIfInBounds_toArray, List.set_cons_zero, List.set_cons_succ])
                      refine wpAnyH_take (i := 5) (v := undef) rfl (by kernel_rfl) (by kernel_rfl) (by kernel_rfl) (fun _ _ _ h => h) (Or.inr ⟨by rfl, rfl⟩) (by assumption) ?_
                      (try simp only [Act.put, List.getElem_toArray, List.getElem_cons_succ, List.getElem_cons_zero, List.setIfInBounds_toArray, List.set_cons_zero, List.set_cons_succ])
                      refine wpAnyH_take (i := 6) (v := undef) rfl (by kernel_rfl) (by kernel_rfl) (by kernel_rfl) (fun _ _ _ h => h) (Or.inr ⟨by rfl, rfl⟩) (by assumption) ?_
                      (try simp only [Act.put, List.getElem_toArray, List.getElem_cons_succ, List.getElem_cons_zero, List.setIfInBounds_toArray, List.set_cons_zero, List.set_cons_succ])
                      refine wpAnyH_take (i := 7) (v := undef) rfl (by kernel_rfl) (by kernel_rfl) (by kernel_rfl) (fun _ _ _ h => h) (Or.inr ⟨by rfl, rfl⟩) (by assumption) ?_
                      (try simp only [Act.put, List.getElem_toArray, List.getElem_cons_succ, List.getElem_cons_zero, List.setIfInBounds_toArray, List.set_cons_zero, List.set_cons_succ])
                      refine wpAnyH_take (i := 8) (v := undef) rfl (by kernel_rfl) (by kernel_rfl) (by kernel_rfl) (fun _ _ _ h => h) (Or.inr ⟨by rfl, rfl⟩) (by assumption) ?_
                      (try simp only [Act.put, List.getElem_toArray, List.getElem_cons_succ, List.getElem_cons_zero, List.setIfInBounds_toArray, List.set_cons_zero, List.set_cons_succ])
                      refine wpAnyH_take (i := 9) (v := .bool false) rfl (by kernel_rfl) (by kernel_rfl) (by kernel_rfl) (fun _ _ _ h => h) (Or.inl ⟨by rfl, ?_⟩) (by assumption) ?_
                      · (intro w hSw; (try dsimp only at hSw); go_simp)
                      (try simp only [Act.put, List.getElem_toArray, List.getElem_cons_succ, List.getElem_cons_zero, List.setIfInBounds_toArray, List.set_cons_zero, List.set_cons_succ])
                      refine wpAnyH_take (i := 10) (v := .bool false) rfl (by kernel_rfl) (by kernel_rfl) (by kernel_rfl) (fun _ _ _ h => h) (Or.inl ⟨by rfl, ?_⟩) (by assumption) ?_
                      · (intro w hSw; (try dsimp only at hSw); go_simp)
                      (try simp only [Act.put, List.getElem_toArray, List.getElem_cons_succ, List.getElem_cons_zero, List.setIfInBounds_toArray, List.set_cons_zero, List.set_cons_succ])
                      refine wpAnyH_take (i := 11) (v := .int .i64 CN) rfl (by kernel_rfl) (by kernel_rfl) (by kernel_rfl) (fun _ _ _ h => h) (Or.inl ⟨by rfl, ?_⟩) (by assumption) ?_
                      · (intro w hSw; (try dsimp only at hSw); go_simp)
                      (try simp only [Act.put, List.getElem_toArray, List.getElem_cons_succ, List.getElem_cons_zero, List.setIfInBounds_toArray, List.set_cons_zero, List.set_cons_succ])
                      refine wpAnyH_take (i := 12) (v := .bool true) rfl (by kernel_rfl) (by kernel_rfl) (by kernel_rfl) (fun _ _ _ h => h) (Or.inl ⟨by rfl, ?_⟩) (by assumption) ?_
                      · (intro w hSw; (try dsimp only at hSw); go_simp)
                      (try simp only [Act.put, List.getElem_toArray, List.getElem_cons_succ, List.getElem_cons_zero, List.setIfInBounds_toArray, List.set_cons_zero, List.set_cons_succ])
                      refine wpAnyH_take (i := 13) (v := .bool true) rfl (by kernel_rfl) (by kernel_rfl) (by kernel_rfl) (fun _ _ _ h => h) (Or.inl ⟨by rfl, ?_⟩) (by assumption) ?_
                      · (intro w hSw; (try dsimp only at hSw); go_simp)
                      (try simp only [Act.put, List.getElem_toArray, List.getElem_cons_succ, List.getElem_cons_zero, List.setIfInBounds_toArray, List.set_cons_zero, List.set_cons_succ])
                      refine wpAnyH_take (i := 14) (v := .slice (some ⟨mb, mo, none⟩) len c2) rfl (by kernel_rfl) (by kernel_rfl) (by kernel_rfl) (fun _ _ _ h => h) (Or.inl ⟨by rfl, ?_⟩) (by assumption) ?_
                      · (intro w hSw; (try dsimp only at hSw); go_simp)
                      (try simp only [Act.put, List.getElem_toArray, List.getElem_cons_succ, List.getElem_cons_zero, List.setIfInBounds_toArray, List.set_cons_zero, List.set_cons_succ])
                      refine wpAnyH_take (i := 15) (v := .int .i64 (i : Int)) rfl (by kernel_rfl) (by kernel_rfl) (by kernel_rfl) (fun _ _ _ h => h) (Or.inl ⟨by rfl, ?_⟩) (by assumption) ?_
                      · (intro w hSw; (try dsimp only at hSw); go_simp)
                      (try simp only [Act.put, List.getElem_toArray, List.getElem_cons_succ, List.getElem_cons_zero, List.setIfInBounds_toArray, List.set_cons_zero, List.set_cons_succ])
                      refine wpAnyH_take (i := 16) (v := .pointer (some ⟨mb, mo + i * 2, none⟩)) rfl (by kernel_rfl) (by kernel_rfl) (by kernel_rfl) (fun _ _ _ h => h) (Or.inl ⟨by rfl, ?_⟩) (by assumption) ?_
                      · (intro w hSw; (try dsimp only at hSw); go_simp)
                      (try simp only [Act.put, List.getElem_toArray, List.getElem_cons_succ, List.getElem_cons_zero, List.setIfInBounds_toArray, List.set_cons_zero, List.set_cons_succ])
                      refine wpAnyH_take (i := 17) (v := .agg #[.int .i64 V1, .int .i64 V2]) rfl (by kernel_rfl) (by kernel_rfl) (by kernel_rfl) (fun _ _ _ h => h) (Or.inl ⟨by rfl, ?_⟩) (by assumption) ?_
                      · (intro w hSw; (try dsimp only at hSw); go_simp)
                      (try simp only [Act.put, List.getElem_toArray, List.getElem_cons_succ, List.getElem_cons_zero, List.setIfInBounds_toArray, List.set_cons_zero, List.set_cons_succ])
                      refine wpAnyH_take (i := 18) (v := .agg #[.int .i64 V1, .int .i64 V2]) rfl (by kernel_rfl) (by kernel_rfl) (by kernel_rfl) (fun _ _ _ h => h) (Or.inl ⟨by rfl, ?_⟩) (by assumption) ?_
                      · (intro w hSw; (try dsimp only at hSw); go_simp)
                      (try simp only [Act.put, List.getElem_toArray, List.getElem_cons_succ, List.getElem_cons_zero, List.setIfInBounds_toArray, List.set_cons_zero, List.set_cons_succ])
                      refine wpAnyH_take (i := 19) (v := .bool false) rfl (by kernel_rfl) (by kernel_rfl) (by kernel_rfl) (fun _ _ _ h => h) (Or.inl ⟨by rfl, ?_⟩) (by assumption) ?_
                      · (intro w hSw; (try dsimp only at hSw); go_simp)
                      (try simp only [Act.put, List.getElem_toArray, List.getElem_cons_succ, List.getElem_cons_zero, List.setIfInBounds_toArray, List.set_cons_zero, List.set_cons_succ])
                      refine wpAnyH_take (i := 20) (v := .bool false) rfl (by kernel_rfl) (by kernel_rfl) (by kernel_rfl) (fun _ _ _ h => h) (Or.inl ⟨by rfl, ?_⟩) (by assumption) ?_
                      · (intro w hSw; (try dsimp only at hSw); go_simp)
                      (try simp only [Act.put, List.getElem_toArray, List.getElem_cons_succ, List.getElem_cons_zero, List.setIfInBounds_toArray, List.set_cons_zero, List.set_cons_succ])
                      refine wpAnyH_take (i := 21) (v := .bool false) rfl (by kernel_rfl) (by kernel_rfl) (by kernel_rfl) (fun _ _ _ h => h) (Or.inl ⟨by rfl, ?_⟩) (by assumption) ?_
                      · (intro w hSw; (try dsimp only at hSw); go_simp)
                      (try simp only [Act.put, List.getElem_toArray, List.getElem_cons_succ, List.getElem_cons_zero, List.setIfInBounds_toArray, List.set_cons_zero, List.set_cons_succ])
                      refine wpAnyH_take (i := 22) (v := .bool false) rfl (by kernel_rfl) (by kernel_rfl) (by kernel_rfl) (fun _ _ _ h => h) (Or.inl ⟨by rfl, ?_⟩) (by assumption) ?_
                      · (intro w hSw; (try dsimp only at hSw); go_simp)
                      (try simp only [Act.put, List.getElem_toArray, List.getElem_cons_succ, List.getElem_cons_zero, List.setIfInBounds_toArray, List.set_cons_zero, List.set_cons_succ])
                      refine wpAnyH_take (i := 23) (v := .int .i64 (i : Int)) rfl (by kernel_rfl) (by kernel_rfl) (by kernel_rfl) (fun _ _ _ h => h) (Or.inl ⟨by rfl, ?_⟩) (by assumption) ?_
                      · (intro w hSw; (try dsimp only at hSw); go_simp)
                      (try simp only [Act.put, List.getElem_toArray, List.getElem_cons_succ, List.getElem_cons_zero, List.setIfInBounds_toArray, List.set_cons_zero, List.set_cons_succ])
                      refine wpAnyH_take (i := 24) (v := .bool true) rfl (by kernel_rfl) (by kernel_rfl) (by kernel_rfl) (fun _ _ _ h => h) (Or.inl ⟨by rfl, ?_⟩) (by assumption) ?_
                      · (intro w hSw; (try dsimp only at hSw); go_simp)
                      (try simp only [Act.put, List.getElem_toArray, List.getElem_cons_succ, List.getElem_cons_zero, List.setIfInBounds_toArray, List.set_cons_zero, List.set_cons_succ])
                      refine wpAnyH_take (i := 25) (v := .bool true) rfl (by kernel_rfl) (by kernel_rfl) (by kernel_rfl) (fun _ _ _ h => h) (Or.inl ⟨by rfl, ?_⟩) (by assumption) ?_
                      · (intro w hSw; (try dsimp only at hSw); go_simp)
                      (try simp only [Act.put, List.getElem_toArray, List.getElem_cons_succ, List.getElem_cons_zero, List.setIfInBounds_toArray, List.set_cons_zero, List.set_cons_succ])
                      refine wpAnyH_take (i := 26) (v := .slice (some ⟨mb, mo, none⟩) len c2) rfl (by kernel_rfl) (by kernel_rfl) (by kernel_rfl) (fun _ _ _ h => h) (Or.inl ⟨by rfl, ?_⟩) (by assumption) ?_
                      · (intro w hSw; (try dsimp only at hSw); go_simp)
                      (try simp only [Act.put, List.getElem_toArray, List.getElem_cons_succ, List.getElem_cons_zero, List.setIfInBounds_toArray, List.set_cons_zero, List.set_cons_succ])
                      refine wpAnyH_take (i := 27) (v := .int .i64 (i : Int)) rfl (by kernel_rfl) (by kernel_rfl) (by kernel_rfl) (fun _ _ _ h => h) (Or.inl ⟨by rfl, ?_⟩) (by assumption) ?_
                      · (intro w hSw; (try dsimp only at hSw); go_simp)
                      (try simp only [Act.put, List.getElem_toArray, List.getElem_cons_succ, List.getElem_cons_zero, List.setIfInBounds_toArray, List.set_cons_zero, List.set_cons_succ])
                      refine wpAnyH_take (i := 28) (v := .pointer (some ⟨mb, mo + i * 2, none⟩)) rfl (by kernel_rfl) (by kernel_rfl) (by kernel_rfl) (fun _ _ _ h => h) (Or.inl ⟨by rfl, ?_⟩) (by assumption) ?_
                      · (intro w hSw; (try dsimp only at hSw); go_simp)
                      (try simp only [Act.put, List.getElem_toArray, List.getElem_cons_succ, List.getElem_cons_zero, List.setIfInBounds_toArray, List.set_cons_zero, List.set_cons_succ])
                      refine wpAnyH_take (i := 29) (v := .agg #[.int .i64 V1, .int .i64 V2]) rfl (by kernel_rfl) (by kernel_rfl) (by kernel_rfl) (fun _ _ _ h => h) (Or.inl ⟨by rfl, ?_⟩) (by assumption) ?_
                      · (intro w hSw; (try dsimp only at hSw); go_simp)
                      (try simp only [Act.put, List.getElem_toArray, List.getElem_cons_succ, List.getElem_cons_zero, List.setIfInBounds_toArray, List.set_cons_zero, List.set_cons_succ])
                      refine wpAnyH_take (i := 30) (v := .agg #[.int .i64 V1, .int .i64 V2]) rfl (by kernel_rfl) (by kernel_rfl) (by kernel_rfl) (fun _ _ _ h => h) (Or.inl ⟨by rfl, ?_⟩) (by assumption) ?_
                      · (intro w hSw; (try dsimp only at hSw); go_simp)
                      (try simp only [Act.put, List.getElem_toArray, List.getElem_cons_succ, List.getElem_cons_zero, List.setIfInBounds_toArray, List.set_cons_zero, List.set_cons_succ])
                      refine wpAnyH_take (i := 31) (v := .bool false) rfl (by kernel_rfl) (by kernel_rfl) (by kernel_rfl) (fun _ _ _ h => h) (Or.inl ⟨by rfl, ?_⟩) (by assumption) ?_
                      · (intro w hSw; (try dsimp only at hSw); go_simp)
                      (try simp only [Act.put, List.getElem_toArray, List.getElem_cons_succ, List.getElem_cons_zero, List.setIfInBounds_toArray, List.set_cons_zero, List.set_cons_succ])
                      refine wpAnyH_take (i := 32) (v := .bool false) rfl (by kernel_rfl) (by kernel_rfl) (by kernel_rfl) (fun _ _ _ h => h) (Or.inl ⟨by rfl, ?_⟩) (by assumption) ?_
                      · (intro w hSw; (try dsimp only at hSw); go_simp)
                      (try simp only [Act.put, List.getElem_toArray, List.getElem_cons_succ, List.getElem_cons_zero, List.setIfInBounds_toArray, List.set_cons_zero, List.set_cons_succ])
                      refine wpAnyH_take (i := 33) (v := .bool false) rfl (by kernel_rfl) (by kernel_rfl) (by kernel_rfl) (fun _ _ _ h => h) (Or.inl ⟨by rfl, ?_⟩) (by assumption) ?_
                      · (intro w hSw; (try dsimp only at hSw); go_simp)
                      (try simp only [Act.put, List.getElem_toArray, List.getElem_cons_succ, List.getElem_cons_zero, List.setIfInBounds_toArray, List.set_cons_zero, List.set_cons_succ])
                      refine wpAnyH_done (by kernel_rfl) ?_ _
                      go_wp2
                      go_roundw
                      case rel => exact ⟨i + 1, by omega, by go_num, BF⟩
                      case measure => simp [intOf]; omega
                    · have ti : ((i : Int) == 0) = false := by simp; omega
                      generalize vecAt l us 0 = ZZ at *
                      obtain ⟨Z1, Z2⟩ := ZZ
                      clear hz AI
                      generalize vecAt l us i = VV at *
                      obtain ⟨V1, V2⟩ := VV
                      simp only at *
                      go_wp2_with fail
                      refine wp_region_held_drew (S := (fun w' => w'.cell? ⟨mb, mo + i * 2, none⟩ = some (.int .i64 V1) ∧ w'.cell? ⟨mb, mo + i * 2 + 1, none⟩ = some (.int .i64 V2) ∧ w'.cell? ⟨w4.heap.size + 1, 0, none⟩ = some (.int .i64 P1) ∧ w'.cell? ⟨w4.heap.size + 1, 1, none⟩ = some (.int .i64 P2) ∧ w'.cell? ⟨w4.heap.size + 1 + 1, 0, none⟩ = some (.int .i64 V1) ∧ w'.cell? ⟨w4.heap.size + 1 + 1, 1, none⟩ = some (.int .i64 V2) ∧ w'.cell? ⟨A7, 0, none⟩ = some (.int .i64 Z1) ∧ w'.cell? ⟨A7, 1, none⟩ = some (.int .i64 Z2))) (by kernel_rfl) ⟨drewc i0, drewc i1, drewc o0, drewc o1, drewc s0, drewc s1, drewc a0, drewc a1⟩ (fun hHeld => ?_)
                      refine wpAnyH_take (i := 0) (v := .int .i64 CN) rfl (by kernel_rfl) (by kernel_rfl) (by kernel_rfl) (fun _ _ _ h => h) (Or.inl ⟨by rfl, ?_⟩) (by assumption) ?_
                      · (intro w hSw; (try dsimp only at hSw); go_simp)
                      (try simp only [Act.put, List.getElem_toArray, List.getElem_cons_succ, List.getElem_cons_zero, List.setIfInBounds_toArray, List.set_cons_zero, List.set_cons_succ])
                      refine wpAnyH_take (i := 1) (v := .bool false) rfl (by kernel_rfl) (by kernel_rfl) (by kernel_rfl) (fun _ _ _ h => h) (Or.inl ⟨by rfl, ?_⟩) (by assumption) ?_
                      · (intro w hSw; (try dsimp only at hSw); go_simp)
                      (try simp only [Act.put, List.getElem_toArray, List.getElem_cons_succ, List.getElem_cons_zero, List.setIfInBounds_toArray, List.set_cons_zero, List.set_cons_succ])
                      refine wpAnyH_take (i := 2) (v := .bool false) rfl (by kernel_rfl) (by kernel_rfl) (by kernel_rfl) (fun _ _ _ h => h) (Or.inl ⟨by rfl, ?_⟩) (by assumption) ?_
                      · (intro w hSw; (try dsimp only at hSw); go_simp)
                      (try simp only [Act.put, List.getElem_toArray, List.getElem_cons_succ, List.getElem_cons_zero, List.setIfInBounds_toArray, List.set_cons_zero, List.set_cons_succ])
                      refine wpAnyH_take (i := 3) (v := undef) rfl (by kernel_rfl) (by kernel_rfl) (by kernel_rfl) (fun _ _ _ h => h) (Or.inr ⟨by rfl, rfl⟩) (by assumption) ?_
                      (try simp only [Act.put, List.getElem_toArray, List.getElem_cons_succ, List.getElem_cons_zero, List.setIfInBounds_toArray, List.set_cons_zero, List.set_cons_succ])
                      refine wpAnyH_take (i := 4) (v := undef) rfl (by kernel_rfl) (by kernel_rfl) (by kernel_rfl) (fun _ _ _ h => h) (Or.inr ⟨by rfl, rfl⟩) (by assumption) ?_
                      (try simp only [Act.put, List.getElem_toArray, List.getElem_cons_succ, List.getElem_cons_zero, List.setIfInBounds_toArray, List.set_cons_zero, List.set_cons_succ])
                      refine wpAnyH_take (i := 5) (v := undef) rfl (by kernel_rfl) (by kernel_rfl) (by kernel_rfl) (fun _ _ _ h => h) (Or.inr ⟨by rfl, rfl⟩) (by assumption) ?_
                      (try simp only [Act.put, List.getElem_toArray, List.getElem_cons_succ, List.getElem_cons_zero, List.setIfInBounds_toArray, List.set_cons_zero, List.set_cons_succ])
                      refine wpAnyH_take (i := 6) (v := undef) rfl (by kernel_rfl) (by kernel_rfl) (by kernel_rfl) (fun _ _ _ h => h) (Or.inr ⟨by rfl, rfl⟩) (by assumption) ?_
                      (try simp only [Act.put, List.getElem_toArray, List.getElem_cons_succ, List.getElem_cons_zero, List.setIfInBounds_toArray, List.set_cons_zero, List.set_cons_succ])
                      refine wpAnyH_take (i := 7) (v := undef) rfl (by kernel_rfl) (by kernel_rfl) (by kernel_rfl) (fun _ _ _ h => h) (Or.inr ⟨by rfl, rfl⟩) (by assumption) ?_
                      (try simp only [Act.put, List.getElem_toArray, List.getElem_cons_succ, List.getElem_cons_zero, List.setIfInBounds_toArray, List.set_cons_zero, List.set_cons_succ])
                      refine wpAnyH_take (i := 8) (v := undef) rfl (by kernel_rfl) (by kernel_rfl) (by kernel_rfl) (fun _ _ _ h => h) (Or.inr ⟨by rfl, rfl⟩) (by assumption) ?_
                      (try simp only [Act.put, List.getElem_toArray, List.getElem_cons_succ, List.getElem_cons_zero, List.setIfInBounds_toArray, List.set_cons_zero, List.set_cons_succ])
                      refine wpAnyH_take (i := 9) (v := .bool false) rfl (by kernel_rfl) (by kernel_rfl) (by kernel_rfl) (fun _ _ _ h => h) (Or.inl ⟨by rfl, ?_⟩) (by assumption) ?_
                      · (intro w hSw; (try dsimp only at hSw); go_simp)
                      (try simp only [Act.put, List.getElem_toArray, List.getElem_cons_succ, List.getElem_cons_zero, List.setIfInBounds_toArray, List.set_cons_zero, List.set_cons_succ])
                      refine wpAnyH_take (i := 10) (v := .bool false) rfl (by kernel_rfl) (by kernel_rfl) (by kernel_rfl) (fun _ _ _ h => h) (Or.inl ⟨by rfl, ?_⟩) (by assumption) ?_
                      · (intro w hSw; (try dsimp only at hSw); go_simp)
                      (try simp only [Act.put, List.getElem_toArray, List.getElem_cons_succ, List.getElem_cons_zero, List.setIfInBounds_toArray, List.set_cons_zero, List.set_cons_succ])
                      refine wpAnyH_take (i := 11) (v := .int .i64 CN) rfl (by kernel_rfl) (by kernel_rfl) (by kernel_rfl) (fun _ _ _ h => h) (Or.inl ⟨by rfl, ?_⟩) (by assumption) ?_
                      · (intro w hSw; (try dsimp only at hSw); go_simp)
                      (try simp only [Act.put, List.getElem_toArray, List.getElem_cons_succ, List.getElem_cons_zero, List.setIfInBounds_toArray, List.set_cons_zero, List.set_cons_succ])
                      refine wpAnyH_take (i := 12) (v := .bool true) rfl (by kernel_rfl) (by kernel_rfl) (by kernel_rfl) (fun _ _ _ h => h) (Or.inl ⟨by rfl, ?_⟩) (by assumption) ?_
                      · (intro w hSw; (try dsimp only at hSw); go_simp)
                      (try simp only [Act.put, List.getElem_toArray, List.getElem_cons_succ, List.getElem_cons_zero, List.setIfInBounds_toArray, List.set_cons_zero, List.set_cons_succ])
                      refine wpAnyH_take (i := 13) (v := .bool true) rfl (by kernel_rfl) (by kernel_rfl) (by kernel_rfl) (fun _ _ _ h => h) (Or.inl ⟨by rfl, ?_⟩) (by assumption) ?_
                      · (intro w hSw; (try dsimp only at hSw); go_simp)
                      (try simp only [Act.put, List.getElem_toArray, List.getElem_cons_succ, List.getElem_cons_zero, List.setIfInBounds_toArray, List.set_cons_zero, List.set_cons_succ])
                      refine wpAnyH_take (i := 14) (v := .slice (some ⟨mb, mo, none⟩) len c2) rfl (by kernel_rfl) (by kernel_rfl) (by kernel_rfl) (fun _ _ _ h => h) (Or.inl ⟨by rfl, ?_⟩) (by assumption) ?_
                      · (intro w hSw; (try dsimp only at hSw); go_simp)
                      (try simp only [Act.put, List.getElem_toArray, List.getElem_cons_succ, List.getElem_cons_zero, List.setIfInBounds_toArray, List.set_cons_zero, List.set_cons_succ])
                      refine wpAnyH_take (i := 15) (v := .int .i64 (i : Int)) rfl (by kernel_rfl) (by kernel_rfl) (by kernel_rfl) (fun _ _ _ h => h) (Or.inl ⟨by rfl, ?_⟩) (by assumption) ?_
                      · (intro w hSw; (try dsimp only at hSw); go_simp)
                      (try simp only [Act.put, List.getElem_toArray, List.getElem_cons_succ, List.getElem_cons_zero, List.setIfInBounds_toArray, List.set_cons_zero, List.set_cons_succ])
                      refine wpAnyH_take (i := 16) (v := .pointer (some ⟨mb, mo + i * 2, none⟩)) rfl (by kernel_rfl) (by kernel_rfl) (by kernel_rfl) (fun _ _ _ h => h) (Or.inl ⟨by rfl, ?_⟩) (by assumption) ?_
                      · (intro w hSw; (try dsimp only at hSw); go_simp)
                      (try simp only [Act.put, List.getElem_toArray, List.getElem_cons_succ, List.getElem_cons_zero, List.setIfInBounds_toArray, List.set_cons_zero, List.set_cons_succ])
                      refine wpAnyH_take (i := 17) (v := .agg #[.int .i64 V1, .int .i64 V2]) rfl (by kernel_rfl) (by kernel_rfl) (by kernel_rfl) (fun _ _ _ h => h) (Or.inl ⟨by rfl, ?_⟩) (by assumption) ?_
                      · (intro w hSw; (try dsimp only at hSw); go_simp)
                      (try simp only [Act.put, List.getElem_toArray, List.getElem_cons_succ, List.getElem_cons_zero, List.setIfInBounds_toArray, List.set_cons_zero, List.set_cons_succ])
                      refine wpAnyH_take (i := 18) (v := .agg #[.int .i64 V1, .int .i64 V2]) rfl (by kernel_rfl) (by kernel_rfl) (by kernel_rfl) (fun _ _ _ h => h) (Or.inl ⟨by rfl, ?_⟩) (by assumption) ?_
                      · (intro w hSw; (try dsimp only at hSw); go_simp)
                      (try simp only [Act.put, List.getElem_toArray, List.getElem_cons_succ, List.getElem_cons_zero, List.setIfInBounds_toArray, List.set_cons_zero, List.set_cons_succ])
                      refine wpAnyH_take (i := 19) (v := .bool false) rfl (by kernel_rfl) (by kernel_rfl) (by kernel_rfl) (fun _ _ _ h => h) (Or.inl ⟨by rfl, ?_⟩) (by assumption) ?_
                      · (intro w hSw; (try dsimp only at hSw); go_simp)
                      (try simp only [Act.put, List.getElem_toArray, List.getElem_cons_succ, List.getElem_cons_zero, List.setIfInBounds_toArray, List.set_cons_zero, List.set_cons_succ])
                      refine wpAnyH_take (i := 20) (v := .bool false) rfl (by kernel_rfl) (by kernel_rfl) (by kernel_rfl) (fun _ _ _ h => h) (Or.inl ⟨by rfl, ?_⟩) (by assumption) ?_
                      · (intro w hSw; (try dsimp only at hSw); go_simp)
                      (try simp only [Act.put, List.getElem_toArray, List.getElem_cons_succ, List.getElem_cons_zero, List.setIfInBounds_toArray, List.set_cons_zero, List.set_cons_succ])
                      refine wpAnyH_take (i := 21) (v := .bool false) rfl (by kernel_rfl) (by kernel_rfl) (by kernel_rfl) (fun _ _ _ h => h) (Or.inl ⟨by rfl, ?_⟩) (by assumption) ?_
                      · (intro w hSw; (try dsimp only at hSw); go_simp)
                      (try simp only [Act.put, List.getElem_toArray, List.getElem_cons_succ, List.getElem_cons_zero, List.setIfInBounds_toArray, List.set_cons_zero, List.set_cons_succ])
                      refine wpAnyH_take (i := 22) (v := .bool false) rfl (by kernel_rfl) (by kernel_rfl) (by kernel_rfl) (fun _ _ _ h => h) (Or.inl ⟨by rfl, ?_⟩) (by assumption) ?_
                      · (intro w hSw; (try dsimp only at hSw); go_simp)
                      (try simp only [Act.put, List.getElem_toArray, List.getElem_cons_succ, List.getElem_cons_zero, List.setIfInBounds_toArray, List.set_cons_zero, List.set_cons_succ])
                      refine wpAnyH_take (i := 23) (v := .int .i64 (i : Int)) rfl (by kernel_rfl) (by kernel_rfl) (by kernel_rfl) (fun _ _ _ h => h) (Or.inl ⟨by rfl, ?_⟩) (by assumption) ?_
                      · (intro w hSw; (try dsimp only at hSw); go_simp)
                      (try simp only [Act.put, List.getElem_toArray, List.getElem_cons_succ, List.getElem_cons_zero, List.setIfInBounds_toArray, List.set_cons_zero, List.set_cons_succ])
                      refine wpAnyH_take (i := 24) (v := .bool false) rfl (by kernel_rfl) (by kernel_rfl) (by kernel_rfl) (fun _ _ _ h => h) (Or.inl ⟨by rfl, ?_⟩) (by assumption) ?_
                      · (intro w hSw; (try dsimp only at hSw); go_simp)
                      (try simp only [Act.put, List.getElem_toArray, List.getElem_cons_succ, List.getElem_cons_zero, List.setIfInBounds_toArray, List.set_cons_zero, List.set_cons_succ])
                      refine wpAnyH_take (i := 25) (v := .bool false) rfl (by kernel_rfl) (by kernel_rfl) (by kernel_rfl) (fun _ _ _ h => h) (Or.inl ⟨by rfl, ?_⟩) (by assumption) ?_
                      · (intro w hSw; (try dsimp only at hSw); go_simp)
                      (try simp only [Act.put, List.getElem_toArray, List.getElem_cons_succ, List.getElem_cons_zero, List.setIfInBounds_toArray, List.set_cons_zero, List.set_cons_succ])
                      refine wpAnyH_take (i := 26) (v := undef) rfl (by kernel_rfl) (by kernel_rfl) (by kernel_rfl) (fun _ _ _ h => h) (Or.inr ⟨by rfl, rfl⟩) (by assumption) ?_
                      (try simp only [Act.put, List.getElem_toArray, List.getElem_cons_succ, List.getElem_cons_zero, List.setIfInBounds_toArray, List.set_cons_zero, List.set_cons_succ])
                      refine wpAnyH_take (i := 27) (v := undef) rfl (by kernel_rfl) (by kernel_rfl) (by kernel_rfl) (fun _ _ _ h => h) (Or.inr ⟨by rfl, rfl⟩) (by assumption) ?_
                      (try simp only [Act.put, List.getElem_toArray, List.getElem_cons_succ, List.getElem_cons_zero, List.setIfInBounds_toArray, List.set_cons_zero, List.set_cons_succ])
                      refine wpAnyH_take (i := 28) (v := undef) rfl (by kernel_rfl) (by kernel_rfl) (by kernel_rfl) (fun _ _ _ h => h) (Or.inr ⟨by rfl, rfl⟩) (by assumption) ?_
                      (try simp only [Act.put, List.getElem_toArray, List.getElem_cons_succ, List.getElem_cons_zero, List.setIfInBounds_toArray, List.set_cons_zero, List.set_cons_succ])
                      refine wpAnyH_take (i := 29) (v := undef) rfl (by kernel_rfl) (by kernel_rfl) (by kernel_rfl) (fun _ _ _ h => h) (Or.inr ⟨by rfl, rfl⟩) (by assumption) ?_
                      (try simp only [Act.put, List.getElem_toArray, List.getElem_cons_succ, List.getElem_cons_zero, List.setIfInBounds_toArray, List.set_cons_zero, List.set_cons_succ])
                      refine wpAnyH_take (i := 30) (v := undef) rfl (by kernel_rfl) (by kernel_rfl) (by kernel_rfl) (fun _ _ _ h => h) (Or.inr ⟨by rfl, rfl⟩) (by assumption) ?_
                      (try simp only [Act.put, List.getElem_toArray, List.getElem_cons_succ, List.getElem_cons_zero, List.setIfInBounds_toArray, List.set_cons_zero, List.set_cons_succ])
                      refine wpAnyH_take (i := 31) (v := undef) rfl (by kernel_rfl) (by kernel_rfl) (by kernel_rfl) (fun _ _ _ h => h) (Or.inr ⟨by rfl, rfl⟩) (by assumption) ?_
                      (try simp only [Act.put, List.getElem_toArray, List.getElem_cons_succ, List.getElem_cons_zero, List.setIfInBounds_toArray, List.set_cons_zero, List.set_cons_succ])
                      refine wpAnyH_take (i := 32) (v := .bool false) rfl (by kernel_rfl) (by kernel_rfl) (by kernel_rfl) (fun _ _ _ h => h) (Or.inl ⟨by rfl, ?_⟩) (by assumption) ?_
                      · (intro w hSw; (try dsimp only at hSw); go_simp)
                      (try simp only [Act.put, List.getElem_toArray, List.getElem_cons_succ, List.getElem_cons_zero, List.setIfInBounds_toArray, List.set_cons_zero, List.set_cons_succ])
                      refine wpAnyH_take (i := 33) (v := .bool false) rfl (by kernel_rfl) (by kernel_rfl) (by kernel_rfl) (fun _ _ _ h => h) (Or.inl ⟨by rfl, ?_⟩) (by assumption) ?_
                      · (intro w hSw; (try dsimp only at hSw); go_simp)
                      (try simp only [Act.put, List.getElem_toArray, List.getElem_cons_succ, List.getElem_cons_zero, List.setIfInBounds_toArray, List.set_cons_zero, List.set_cons_succ])
                      refine wpAnyH_done (by kernel_rfl) ?_ _
                      go_wp2
                      go_roundw
                      case rel => exact ⟨i + 1, by omega, by go_num, BF⟩
                      case measure => simp [intOf]; omega
                  · rw [OL.out hlf] at o0 o1
                    have he : kidN l q1 j = 0 := kz.2 hlf
                    generalize kidN l q1 j = CN at *
                    have t1 : (CN == 0) = true := by simpa using he
                    have t2 : decide (0 < CN) = false := by simp; omega
                    generalize kidC l us q1 j = Y1 at *
                    generalize kidM l us q1 j = Y2 at *
                    clear KA OL OS OK KB KZ kz kn he hlf x1 x2 x3 hB5 A4 MI
                    by_cases hz : i = 0
                    · have ti : ((i : Int) == 0) = true := by simp; omega
                      rw [← AI.out hz] at a0 a1
                      clear hz AI
                      generalize vecAt l us i = VV at *
                      obtain ⟨V1, V2⟩ := VV
                      simp only at *
                      go_wp2_with fail
                      refine wp_region_held_drew (S := (fun w' => w'.cell? ⟨mb, mo + i * 2, none⟩ = some (.int .i64 V1) ∧ w'.cell? ⟨mb, mo + i * 2 + 1, none⟩ = some (.int .i64 V2) ∧ w'.cell? ⟨w4.heap.size + 1, 0, none⟩ = some (.int .i64 V1) ∧ w'.cell? ⟨w4.heap.size + 1, 1, none⟩ = some (.int .i64 V2) ∧ w'.cell? ⟨w4.heap.size + 1 + 1, 0, none⟩ = some (.int .i64 Y1) ∧ w'.cell? ⟨w4.heap.size + 1 + 1, 1, none⟩ = some (.int .i64 Y2) ∧ w'.cell? ⟨A7, 0, none⟩ = some (.int .i64 V1) ∧ w'.cell? ⟨A7, 1, none⟩ = some (.int .i64 V2))) (by kernel_rfl) ⟨drewc i0, drewc i1, drewc o0, drewc o1, drewc s0, drewc s1, drewc a0, drewc a1⟩ (fun hHeld => ?_)
                      refine wpAnyH_take (i := 0) (v := .int .i64 CN) rfl (by kernel_rfl) (by kernel_rfl) (by kernel_rfl) (fun _ _ _ h => h) (Or.inl ⟨by rfl, ?_⟩) (by assumption) ?_
                      · (intro w hSw; (try dsimp only at hSw); go_simp)
                      (try simp only [Act.put, List.getElem_toArray, List.getElem_cons_succ, List.getElem_cons_zero, List.setIfInBounds_toArray, List.set_cons_zero, List.set_cons_succ])
                      refine wpAnyH_take (i := 1) (v := .bool true) rfl (by kernel_rfl) (by kernel_rfl) (by kernel_rfl) (fun _ _ _ h => h) (Or.inl ⟨by rfl, ?_⟩) (by assumption) ?_
                      · (intro w hSw; (try dsimp only at hSw); go_simp)
                      (try simp only [Act.put, List.getElem_toArray, List.getElem_cons_succ, List.getElem_cons_zero, List.setIfInBounds_toArray, List.set_cons_zero, List.set_cons_succ])
                      refine wpAnyH_take (i := 2) (v := .bool true) rfl (by kernel_rfl) (by kernel_rfl) (by kernel_rfl) (fun _ _ _ h => h) (Or.inl ⟨by rfl, ?_⟩) (by assumption) ?_
                      · (intro w hSw; (try dsimp only at hSw); go_simp)
                      (try simp only [Act.put, List.getElem_toArray, List.getElem_cons_succ, List.getElem_cons_zero, List.setIfInBounds_toArray, List.set_cons_zero, List.set_cons_succ])
                      refine wpAnyH_take (i := 3) (v := .slice (some ⟨mb, mo, none⟩) len c2) rfl (by kernel_rfl) (by kernel_rfl) (by kernel_rfl) (fun _ _ _ h => h) (Or.inl ⟨by rfl, ?_⟩) (by assumption) ?_
                      · (intro w hSw; (try dsimp only at hSw); go_simp)
                      (try simp only [Act.put, List.getElem_toArray, List.getElem_cons_succ, List.getElem_cons_zero, List.setIfInBounds_toArray, List.set_cons_zero, List.set_cons_succ])
                      refine wpAnyH_take (i := 4) (v := .int .i64 (i : Int)) rfl (by kernel_rfl) (by kernel_rfl) (by kernel_rfl) (fun _ _ _ h => h) (Or.inl ⟨by rfl, ?_⟩) (by assumption) ?_
                      · (intro w hSw; (try dsimp only at hSw); go_simp)
                      (try simp only [Act.put, List.getElem_toArray, List.getElem_cons_succ, List.getElem_cons_zero, List.setIfInBounds_toArray, List.set_cons_zero, List.set_cons_succ])
                      refine wpAnyH_take (i := 5) (v := .pointer (some ⟨mb, mo + i * 2, none⟩)) rfl (by kernel_rfl) (by kernel_rfl) (by kernel_rfl) (fun _ _ _ h => h) (Or.inl ⟨by rfl, ?_⟩) (by assumption) ?_
                      · (intro w hSw; (try dsimp only at hSw); go_simp)
                      (try simp only [Act.put, List.getElem_toArray, List.getElem_cons_succ, List.getElem_cons_zero, List.setIfInBounds_toArray, List.set_cons_zero, List.set_cons_succ])
                      refine wpAnyH_take (i := 6) (v := .agg #[.int .i64 V1, .int .i64 V2]) rfl (by kernel_rfl) (by kernel_rfl) (by kernel_rfl) (fun _ _ _ h => h) (Or.inl ⟨by rfl, ?_⟩) (by assumption) ?_
                      · (intro w hSw; (try dsimp only at hSw); go_simp)
                      (try simp only [Act.put, List.getElem_toArray, List.getElem_cons_succ, List.getElem_cons_zero, List.setIfInBounds_toArray, List.set_cons_zero, List.set_cons_succ])
                      refine wpAnyH_take (i := 7) (v := .agg #[.int .i64 V1, .int .i64 V2]) rfl (by kernel_rfl) (by kernel_rfl) (by kernel_rfl) (fun _ _ _ h => h) (Or.inl ⟨by rfl, ?_⟩) (by assumption) ?_
                      · (intro w hSw; (try dsimp only at hSw); go_simp)
                      (try simp only [Act.put, List.getElem_toArray, List.getElem_cons_succ, List.getElem_cons_zero, List.setIfInBounds_toArray, List.set_cons_zero, List.set_cons_succ])
                      refine wpAnyH_take (i := 8) (v := .bool false) rfl (by kernel_rfl) (by kernel_rfl) (by kernel_rfl) (fun _ _ _ h => h) (Or.inl ⟨by rfl, ?_⟩) (by assumption) ?_
                      · (intro w hSw; (try dsimp only at hSw); go_simp)
                      (try simp only [Act.put, List.getElem_toArray, List.getElem_cons_succ, List.getElem_cons_zero, List.setIfInBounds_toArray, List.set_cons_zero, List.set_cons_succ])
                      refine wpAnyH_take (i := 9) (v := .bool false) rfl (by kernel_rfl) (by kernel_rfl) (by kernel_rfl) (fun _ _ _ h => h) (Or.inl ⟨by rfl, ?_⟩) (by assumption) ?_
                      · (intro w hSw; (try dsimp only at hSw); go_simp)
                      (try simp only [Act.put, List.getElem_toArray, List.getElem_cons_succ, List.getElem_cons_zero, List.setIfInBounds_toArray, List.set_cons_zero, List.set_cons_succ])
                      refine wpAnyH_take (i := 10) (v := .bool false) rfl (by kernel_rfl) (by kernel_rfl) (by kernel_rfl) (fun _ _ _ h => h) (Or.inl ⟨by rfl, ?_⟩) (by assumption) ?_
                      · (intro w hSw; (try dsimp only at hSw); go_simp)
                      (try simp only [Act.put, List.getElem_toArray, List.getElem_cons_succ, List.getElem_cons_zero, List.setIfInBounds_toArray, List.set_cons_zero, List.set_cons_succ])
                      refine wpAnyH_take (i := 11) (v := .int .i64 CN) rfl (by kernel_rfl) (by kernel_rfl) (by kernel_rfl) (fun _ _ _ h => h) (Or.inl ⟨by rfl, ?_⟩) (by assumption) ?_
                      · (intro w hSw; (try dsimp only at hSw); go_simp)
                      (try simp only [Act.put, List.getElem_toArray, List.getElem_cons_succ, List.getElem_cons_zero, List.setIfInBounds_toArray, List.set_cons_zero, List.set_cons_succ])
                      refine wpAnyH_take (i := 12) (v := .bool false) rfl (by kernel_rfl) (by kernel_rfl) (by kernel_rfl) (fun _ _ _ h => h) (Or.inl ⟨by rfl, ?_⟩) (by assumption) ?_
                      · (intro w hSw; (try dsimp only at hSw); go_simp)
                      (try simp only [Act.put, List.getElem_toArray, List.getElem_cons_succ, List.getElem_cons_zero, List.setIfInBounds_toArray, List.set_cons_zero, List.set_cons_succ])
                      refine wpAnyH_take (i := 13) (v := .bool false) rfl (by kernel_rfl) (by kernel_rfl) (by kernel_rfl) (fun _ _ _ h => h) (Or.inl ⟨by rfl, ?_⟩) (by assumption) ?_
                      · (intro w hSw; (try dsimp only at hSw); go_simp)
                      (try simp only [Act.put, List.getElem_toArray, List.getElem_cons_succ, List.getElem_cons_zero, List.setIfInBounds_toArray, List.set_cons_zero, List.set_cons_succ])
                      refine wpAnyH_take (i := 14) (v := undef) rfl (by kernel_rfl) (by kernel_rfl) (by kernel_rfl) (fun _ _ _ h => h) (Or.inr ⟨by rfl, rfl⟩) (by assumption) ?_
                      (try simp only [Act.put, List.getElem_toArray, List.getElem_cons_succ, List.getElem_cons_zero, List.setIfInBounds_toArray, List.set_cons_zero, List.set_cons_succ])
                      refine wpAnyH_take (i := 15) (v := undef) rfl (by kernel_rfl) (by kernel_rfl) (by kernel_rfl) (fun _ _ _ h => h) (Or.inr ⟨by rfl, rfl⟩) (by assumption) ?_
                      (try simp only [Act.put, List.getElem_toArray, List.getElem_cons_succ, List.getElem_cons_zero, List.setIfInBounds_toArray, List.set_cons_zero, List.set_cons_succ])
                      refine wpAnyH_take (i := 16) (v := undef) rfl (by kernel_rfl) (by kernel_rfl) (by kernel_rfl) (fun _ _ _ h => h) (Or.inr ⟨by rfl, rfl⟩) (by assumption) ?_
                      (try simp only [Act.put, List.getElem_toArray, List.getElem_cons_succ, List.getElem_cons_zero, List.setIfInBounds_toArray, List.set_cons_zero, List.set_cons_succ])
                      refine wpAnyH_take (i := 17) (v := undef) rfl (by kernel_rfl) (by kernel_rfl) (by kernel_rfl) (fun _ _ _ h => h) (Or.inr ⟨by rfl, rfl⟩) (by assumption) ?_
                      (try simp only [Act.put, List.getElem_toArray, List.getElem_cons_succ, List.getElem_cons_zero, List.setIfInBounds_toArray, List.set_cons_zero, List.set_cons_succ])
                      refine wpAnyH_take (i := 18) (v := undef) rfl (by kernel_rfl) (by kernel_rfl) (by kernel_rfl) (fun _ _ _ h => h) (Or.inr ⟨by rfl, rfl⟩) (by assumption) ?_
                      (try simp only [Act.put, List.getElem_toArray, List.getElem_cons_succ, List.getElem_cons_zero, List.setIfInBounds_toArray, List.set_cons_zero, List.set_cons_succ])
                      refine wpAnyH_take (i := 19) (v := undef) rfl (by kernel_rfl) (by kernel_rfl) (by kernel_rfl) (fun _ _ _ h => h) (Or.inr ⟨by rfl, rfl⟩) (by assumption) ?_
                      (try simp only [Act.put, List.getElem_toArray, List.getElem_cons_succ, List.getElem_cons_zero, List.setIfInBounds_toArray, List.set_cons_zero, List.set_cons_succ])
                      refine wpAnyH_take (i := 20) (v := .bool false) rfl (by kernel_rfl) (by kernel_rfl) (by kernel_rfl) (fun _ _ _ h => h) (Or.inl ⟨by rfl, ?_⟩) (by assumption) ?_
                      · (intro w hSw; (try dsimp only at hSw); go_simp)
                      (try simp only [Act.put, List.getElem_toArray, List.getElem_cons_succ, List.getElem_cons_zero, List.setIfInBounds_toArray, List.set_cons_zero, List.set_cons_succ])
                      refine wpAnyH_take (i := 21) (v := .bool false) rfl (by kernel_rfl) (by kernel_rfl) (by kernel_rfl) (fun _ _ _ h => h) (Or.inl ⟨by rfl, ?_⟩) (by assumption) ?_
                      · (intro w hSw; (try dsimp only at hSw); go_simp)
                      (try simp only [Act.put, List.getElem_toArray, List.getElem_cons_succ, List.getElem_cons_zero, List.setIfInBounds_toArray, List.set_cons_zero, List.set_cons_succ])
                      refine wpAnyH_take (i := 22) (v := .bool false) rfl (by kernel_rfl) (by kernel_rfl) (by kernel_rfl) (fun _ _ _ h => h) (Or.inl ⟨by rfl, ?_⟩) (by assumption) ?_
                      · (intro w hSw; (try dsimp only at hSw); go_simp)
                      (try simp only [Act.put, List.getElem_toArray, List.getElem_cons_succ, List.getElem_cons_zero, List.setIfInBounds_toArray, List.set_cons_zero, List.set_cons_succ])
                      refine wpAnyH_take (i := 23) (v := .int .i64 (i : Int)) rfl (by kernel_rfl) (by kernel_rfl) (by kernel_rfl) (fun _ _ _ h => h) (Or.inl ⟨by rfl, ?_⟩) (by assumption) ?_
                      · (intro w hSw; (try dsimp only at hSw); go_simp)
                      (try simp only [Act.put, List.getElem_toArray, List.getElem_cons_succ, List.getElem_cons_zero, List.setIfInBounds_toArray, List.set_cons_zero, List.set_cons_succ])
                      refine wpAnyH_take (i := 24) (v := .bool true) rfl (by kernel_rfl) (by kernel_rfl) (by kernel_rfl) (fun _ _ _ h => h) (Or.inl ⟨by rfl, ?_⟩) (by assumption) ?_
                      · (intro w hSw; (try dsimp only at hSw); go_simp)
                      (try simp only [Act.put, List.getElem_toArray, List.getElem_cons_succ, List.getElem_cons_zero, List.setIfInBounds_toArray, List.set_cons_zero, List.set_cons_succ])
                      refine wpAnyH_take (i := 25) (v := .bool true) rfl (by kernel_rfl) (by kernel_rfl) (by kernel_rfl) (fun _ _ _ h => h) (Or.inl ⟨by rfl, ?_⟩) (by assumption) ?_
                      · (intro w hSw; (try dsimp only at hSw); go_simp)
                      (try simp only [Act.put, List.getElem_toArray, List.getElem_cons_succ, List.getElem_cons_zero, List.setIfInBounds_toArray, List.set_cons_zero, List.set_cons_succ])
                      refine wpAnyH_take (i := 26) (v := .slice (some ⟨mb, mo, none⟩) len c2) rfl (by kernel_rfl) (by kernel_rfl) (by kernel_rfl) (fun _ _ _ h => h) (Or.inl ⟨by rfl, ?_⟩) (by assumption) ?_
                      · (intro w hSw; (try dsimp only at hSw); go_simp)
                      (try simp only [Act.put, List.getElem_toArray, List.getElem_cons_succ, List.getElem_cons_zero, List.setIfInBounds_toArray, List.set_cons_zero, List.set_cons_succ])
                      refine wpAnyH_take (i := 27) (v := .int .i64 (i : Int)) rfl (by kernel_rfl) (by kernel_rfl) (by kernel_rfl) (fun _ _ _ h => h) (Or.inl ⟨by rfl, ?_⟩) (by assumption) ?_
                      · (intro w hSw; (try dsimp only at hSw); go_simp)
                      (try simp only [Act.put, List.getElem_toArray, List.getElem_cons_succ, List.getElem_cons_zero, List.setIfInBounds_toArray, List.set_cons_zero, List.set_cons_succ])
                      refine wpAnyH_take (i := 28) (v := .pointer (some ⟨mb, mo + i * 2, none⟩)) rfl (by kernel_rfl) (by kernel_rfl) (by kernel_rfl) (fun _ _ _ h => h) (Or.inl ⟨by rfl, ?_⟩) (by assumption) ?_
                      · (intro w hSw; (try dsimp only at hSw); go_simp)
                      (try simp only [Act.put, List.getElem_toArray, List.getElem_cons_succ, List.getElem_cons_zero, List.setIfInBounds_toArray, List.set_cons_zero, List.set_cons_succ])
                      refine wpAnyH_take (i := 29) (v := .agg #[.int .i64 V1, .int .i64 V2]) rfl (by kernel_rfl) (by kernel_rfl) (by kernel_rfl) (fun _ _ _ h => h) (Or.inl ⟨by rfl, ?_⟩) (by assumption) ?_
                      · (intro w hSw; (try dsimp only at hSw); go_simp)
                      (try simp only [Act.put, List.getElem_toArray, List.getElem_cons_succ, List.getElem_cons_zero, List.setIfInBounds_toArray, List.set_cons_zero, List.set_cons_succ])
                      refine wpAnyH_take (i := 30) (v := .agg #[.int .i64 V1, .int .i64 V2]) rfl (by kernel_rfl) (by kernel_rfl) (by kernel_rfl) (fun _ _ _ h => h) (Or.inl ⟨by rfl, ?_⟩) (by assumption) ?_
                      · (intro w hSw; (try dsimp only at hSw); go_simp)
                      (try simp only [Act.put, List.getElem_toArray, List.getElem_cons_succ, List.getElem_cons_zero, List.setIfInBounds_toArray, List.set_cons_zero, List.set_cons_succ])
                      refine wpAnyH_take (i := 31) (v := .bool false) rfl (by kernel_rfl) (by kernel_rfl) (by kernel_rfl) (fun _ _ _ h => h) (Or.inl ⟨by rfl, ?_⟩) (by assumption) ?_
                      · (intro w hSw; (try dsimp only at hSw); go_simp)
                      (try simp only [Act.put, List.getElem_toArray, List.getElem_cons_succ, List.getElem_cons_zero, List.setIfInBounds_toArray, List.set_cons_zero, List.set_cons_succ])
                      refine wpAnyH_take (i := 32) (v := .bool false) rfl (by kernel_rfl) (by kernel_rfl) (by kernel_rfl) (fun _ _ _ h => h) (Or.inl ⟨by rfl, ?_⟩) (by assumption) ?_
                      · (intro w hSw; (try dsimp only at hSw); go_simp)
                      (try simp only [Act.put, List.getElem_toArray, List.getElem_cons_succ, List.getElem_cons_zero, List.setIfInBounds_toArray, List.set_cons_zero, List.set_cons_succ])
                      refine wpAnyH_take (i := 33) (v := .bool false) rfl (by kernel_rfl) (by kernel_rfl) (by kernel_rfl) (fun _ _ _ h => h) (Or.inl ⟨by rfl, ?_⟩) (by assumption) ?_
                      · (intro w hSw; (try dsimp only at hSw); go_simp)
                      (try simp only [Act.put, List.getElem_toArray, List.getElem_cons_succ, List.getElem_cons_zero, List.setIfInBounds_toArray, List.set_cons_zero, List.set_cons_succ])
                      refine wpAnyH_done (by kernel_rfl) ?_ _
                      go_wp2
                      go_roundw
                      case rel => exact ⟨i + 1, by omega, by go_num, BF⟩
                      case measure => simp [intOf]; omega
                    · have ti : ((i : Int) == 0) = false := by simp; omega
                      generalize vecAt l us 0 = ZZ at *
                      obtain ⟨Z1, Z2⟩ := ZZ
                      clear hz AI
                      generalize vecAt l us i = VV at *
                      obtain ⟨V1, V2⟩ := VV
                      simp only at *
                      go_wp2_with fail
                      refine wp_region_held_drew (S := (fun w' => w'.cell? ⟨mb, mo + i * 2, none⟩ = some (.int .i64 V1) ∧ w'.cell? ⟨mb, mo + i * 2 + 1, none⟩ = some (.int .i64 V2) ∧ w'.cell? ⟨w4.heap.size + 1, 0, none⟩ = some (.int .i64 V1) ∧ w'.cell? ⟨w4.heap.size + 1, 1, none⟩ = some (.int .i64 V2) ∧ w'.cell? ⟨w4.heap.size + 1 + 1, 0, none⟩ = some (.int .i64 Y1) ∧ w'.cell? ⟨w4.heap.size + 1 + 1, 1, none⟩ = some (.int .i64 Y2) ∧ w'.cell? ⟨A7, 0, none⟩ = some (.int .i64 Z1) ∧ w'.cell? ⟨A7, 1, none⟩ = some (.int .i64 Z2))) (by kernel_rfl) ⟨drewc i0, drewc i1, drewc o0, drewc o1, drewc s0, drewc s1, drewc a0, drewc a1⟩ (fun hHeld => ?_)
                      refine wpAnyH_take (i := 0) (v := .int .i64 CN) rfl (by kernel_rfl) (by kernel_rfl) (by kernel_rfl) (fun _ _ _ h => h) (Or.inl ⟨by rfl, ?_⟩) (by assumption) ?_
                      · (intro w hSw; (try dsimp only at hSw); go_simp)
                      (try simp only [Act.put, List.getElem_toArray, List.getElem_cons_succ, List.getElem_cons_zero, List.setIfInBounds_toArray, List.set_cons_zero, List.set_cons_succ])
                      refine wpAnyH_take (i := 1) (v := .bool true) rfl (by kernel_rfl) (by kernel_rfl) (by kernel_rfl) (fun _ _ _ h => h) (Or.inl ⟨by rfl, ?_⟩) (by assumption) ?_
                      · (intro w hSw; (try dsimp only at hSw); go_simp)
                      (try simp only [Act.put, List.getElem_toArray, List.getElem_cons_succ, List.getElem_cons_zero, List.setIfInBounds_toArray, List.set_cons_zero, List.set_cons_succ])
                      refine wpAnyH_take (i := 2) (v := .bool true) rfl (by kernel_rfl) (by kernel_rfl) (by kernel_rfl) (fun _ _ _ h => h) (Or.inl ⟨by rfl, ?_⟩) (by assumption) ?_
                      · (intro w hSw; (try dsimp only at hSw); go_simp)
                      (try simp only [Act.put, List.getElem_toArray, List.getElem_cons_succ, List.getElem_cons_zero, List.setIfInBounds_toArray, List.set_cons_zero, List.set_cons_succ])
                      refine wpAnyH_take (i := 3) (v := .slice (some ⟨mb, mo, none⟩) len c2) rfl (by kernel_rfl) (by kernel_rfl) (by kernel_rfl) (fun _ _ _ h => h) (Or.inl ⟨by rfl, ?_⟩) (by assumption) ?_
                      · (intro w hSw; (try dsimp only at hSw); go_simp)
                      (try simp only [Act.put, List.getElem_toArray, List.getElem_cons_succ, List.getElem_cons_zero, List.setIfInBounds_toArray, List.set_cons_zero, List.set_cons_succ])
                      refine wpAnyH_take (i := 4) (v := .int .i64 (i : Int)) rfl (by kernel_rfl) (by kernel_rfl) (by kernel_rfl) (fun _ _ _ h => h) (Or.inl ⟨by rfl, ?_⟩) (by assumption) ?_
                      · (intro w hSw; (try dsimp only at hSw); go_simp)
                      (try simp only [Act.put, List.getElem_toArray, List.getElem_cons_succ, List.getElem_cons_zero, List.setIfInBounds_toArray, List.set_cons_zero, List.set_cons_succ])
                      refine wpAnyH_take (i := 5) (v := .pointer (some ⟨mb, mo + i * 2, none⟩)) rfl (by kernel_rfl) (by kernel_rfl) (by kernel_rfl) (fun _ _ _ h => h) (Or.inl ⟨by rfl, ?_⟩) (by assumption) ?_
                      · (intro w hSw; (try dsimp only at hSw); go_simp)
                      (try simp only [Act.put, List.getElem_toArray, List.getElem_cons_succ, List.getElem_cons_zero, List.setIfInBounds_toArray, List.set_cons_zero, List.set_cons_succ])
                      refine wpAnyH_take (i := 6) (v := .agg #[.int .i64 V1, .int .i64 V2]) rfl (by kernel_rfl) (by kernel_rfl) (by kernel_rfl) (fun _ _ _ h => h) (Or.inl ⟨by rfl, ?_⟩) (by assumption) ?_
                      · (intro w hSw; (try dsimp only at hSw); go_simp)
                      (try simp only [Act.put, List.getElem_toArray, List.getElem_cons_succ, List.getElem_cons_zero, List.setIfInBounds_toArray, List.set_cons_zero, List.set_cons_succ])
                      refine wpAnyH_take (i := 7) (v := .agg #[.int .i64 V1, .int .i64 V2]) rfl (by kernel_rfl) (by kernel_rfl) (by kernel_rfl) (fun _ _ _ h => h) (Or.inl ⟨by rfl, ?_⟩) (by assumption) ?_
                      · (intro w hSw; (try dsimp only at hSw); go_simp)
                      (try simp only [Act.put, List.getElem_toArray, List.getElem_cons_succ, List.getElem_cons_zero, List.setIfInBounds_toArray, List.set_cons_zero, List.set_cons_succ])
                      refine wpAnyH_take (i := 8) (v := .bool false) rfl (by kernel_rfl) (by kernel_rfl) (by kernel_rfl) (fun _ _ _ h => h) (Or.inl ⟨by rfl, ?_⟩) (by assumption) ?_
                      · (intro w hSw; (try dsimp only at hSw); go_simp)
                      (try simp only [Act.put, List.getElem_toArray, List.getElem_cons_succ, List.getElem_cons_zero, List.setIfInBounds_toArray, List.set_cons_zero, List.set_cons_succ])
                      refine wpAnyH_take (i := 9) (v := .bool false) rfl (by kernel_rfl) (by kernel_rfl) (by kernel_rfl) (fun _ _ _ h => h) (Or.inl ⟨by rfl, ?_⟩) (by assumption) ?_
                      · (intro w hSw; (try dsimp only at hSw); go_simp)
                      (try simp only [Act.put, List.getElem_toArray, List.getElem_cons_succ, List.getElem_cons_zero, List.setIfInBounds_toArray, List.set_cons_zero, List.set_cons_succ])
                      refine wpAnyH_take (i := 10) (v := .bool false) rfl (by kernel_rfl) (by kernel_rfl) (by kernel_rfl) (fun _ _ _ h => h) (Or.inl ⟨by rfl, ?_⟩) (by assumption) ?_
                      · (intro w hSw; (try dsimp only at hSw); go_simp)
                      (try simp only [Act.put, List.getElem_toArray, List.getElem_cons_succ, List.getElem_cons_zero, List.setIfInBounds_toArray, List.set_cons_zero, List.set_cons_succ])
                      refine wpAnyH_take (i := 11) (v := .int .i64 CN) rfl (by kernel_rfl) (by kernel_rfl) (by kernel_rfl) (fun _ _ _ h => h) (Or.inl ⟨by rfl, ?_⟩) (by assumption) ?_
                      · (intro w hSw; (try dsimp only at hSw); go_simp)
                      (try simp only [Act.put, List.getElem_toArray, List.getElem_cons_succ, List.getElem_cons_zero, List.setIfInBounds_toArray, List.set_cons_zero, List.set_cons_succ])
                      refine wpAnyH_take (i := 12) (v := .bool false) rfl (by kernel_rfl) (by kernel_rfl) (by kernel_rfl) (fun _ _ _ h => h) (Or.inl ⟨by rfl, ?_⟩) (by assumption) ?_
                      · (intro w hSw; (try dsimp only at hSw); go_simp)
                      (try simp only [Act.put, List.getElem_toArray, List.getElem_cons_succ, List.getElem_cons_zero, List.setIfInBounds_toArray, List.set_cons_zero, List.set_cons_succ])
                      refine wpAnyH_take (i := 13) (v := .bool false) rfl (by kernel_rfl) (by kernel_rfl) (by kernel_rfl) (fun _ _ _ h => h) (Or.inl ⟨by rfl, ?_⟩) (by assumption) ?_
                      · (intro w hSw; (try dsimp only at hSw); go_simp)
                      (try simp only [Act.put, List.getElem_toArray, List.getElem_cons_succ, List.getElem_cons_zero, List.setIfInBounds_toArray, List.set_cons_zero, List.set_cons_succ])
                      refine wpAnyH_take (i := 14) (v := undef) rfl (by kernel_rfl) (by kernel_rfl) (by kernel_rfl) (fun _ _ _ h => h) (Or.inr ⟨by rfl, rfl⟩) (by assumption) ?_
                      (try simp only [Act.put, List.getElem_toArray, List.getElem_cons_succ, List.getElem_cons_zero, List.setIfInBounds_toArray, List.set_cons_zero, List.set_cons_succ])
                      refine wpAnyH_take (i := 15) (v := undef) rfl (by kernel_rfl) (by kernel_rfl) (by kernel_rfl) (fun _ _ _ h => h) (Or.inr ⟨by rfl, rfl⟩) (by assumption) ?_
                      (try simp only [Act.put, List.getElem_toArray, List.getElem_cons_succ, List.getElem_cons_zero, List.setIfInBounds_toArray, List.set_cons_zero, List.set_cons_succ])
                      refine wpAnyH_take (i := 16) (v := undef) rfl (by kernel_rfl) (by kernel_rfl) (by kernel_rfl) (fun _ _ _ h => h) (Or.inr ⟨by rfl, rfl⟩) (by assumption) ?_
                      (try simp only [Act.put, List.getElem_toArray, List.getElem_cons_succ, List.getElem_cons_zero, List.setIfInBounds_toArray, List.set_cons_zero, List.set_cons_succ])
                      refine wpAnyH_take (i := 17) (v := undef) rfl (by kernel_rfl) (by kernel_rfl) (by kernel_rfl) (fun _ _ _ h => h) (Or.inr ⟨by rfl, rfl⟩) (by assumption) ?_
                      (try simp only [Act.put, List.getElem_toArray, List.getElem_cons_succ, List.getElem_cons_zero, List.setIfInBounds_toArray, List.set_cons_zero, List.set_cons_succ])
                      refine wpAnyH_take (i := 18) (v := undef) rfl (by kernel_rfl) (by kernel_rfl) (by kernel_rfl) (fun _ _ _ h => h) (Or.inr ⟨by rfl, rfl⟩) (by assumption) ?_
                      (try simp only [Act.put, List.getElem_toArray, List.getElem_cons_succ, List.getElem_cons_zero, List.setIfInBounds_toArray, List.set_cons_zero, List.set_cons_succ])
                      refine wpAnyH_take (i := 19) (v := undef) rfl (by kernel_rfl) (by kernel_rfl) (by kernel_rfl) (fun _ _ _ h => h) (Or.inr ⟨by rfl, rfl⟩) (by assumption) ?_
                      (try simp only [Act.put, List.getElem_toArray, List.getElem_cons_succ, List.getElem_cons_zero, List.setIfInBounds_toArray, List.set_cons_zero, List.set_cons_succ])
                      refine wpAnyH_take (i := 20) (v := .bool false) rfl (by kernel_rfl) (by kernel_rfl) (by kernel_rfl) (fun _ _ _ h => h) (Or.inl ⟨by rfl, ?_⟩) (by assumption) ?_
                      · (intro w hSw; (try dsimp only at hSw); go_simp)
                      (try simp only [Act.put, List.getElem_toArray, List.getElem_cons_succ, List.getElem_cons_zero, List.setIfInBounds_toArray, List.set_cons_zero, List.set_cons_succ])
                      refine wpAnyH_take (i := 21) (v := .bool false) rfl (by kernel_rfl) (by kernel_rfl) (by kernel_rfl) (fun _ _ _ h => h) (Or.inl ⟨by rfl, ?_⟩) (by assumption) ?_
                      · (intro w hSw; (try dsimp only at hSw); go_simp)
                      (try simp only [Act.put, List.getElem_toArray, List.getElem_cons_succ, List.getElem_cons_zero, List.setIfInBounds_toArray, List.set_cons_zero, List.set_cons_succ])
                      refine wpAnyH_take (i := 22) (v := .bool false) rfl (by kernel_rfl) (by kernel_rfl) (by kernel_rfl) (fun _ _ _ h => h) (Or.inl ⟨by rfl, ?_⟩) (by assumption) ?_
                      · (intro w hSw; (try dsimp only at hSw); go_simp)
                      (try simp only [Act.put, List.getElem_toArray, List.getElem_cons_succ, List.getElem_cons_zero, List.setIfInBounds_toArray, List.set_cons_zero, List.set_cons_succ])
                      refine wpAnyH_take (i := 23) (v := .int .i64 (i : Int)) rfl (by kernel_rfl) (by kernel_rfl) (by kernel_rfl) (fun _ _ _ h => h) (Or.inl ⟨by rfl, ?_⟩) (by assumption) ?_
                      · (intro w hSw; (try dsimp only at hSw); go_simp)
                      (try simp only [Act.put, List.getElem_toArray, List.getElem_cons_succ, List.getElem_cons_zero, List.setIfInBounds_toArray, List.set_cons_zero, List.set_cons_succ])
                      refine wpAnyH_take (i := 24) (v := .bool false) rfl (by kernel_rfl) (by kernel_rfl) (by kernel_rfl) (fun _ _ _ h => h) (Or.inl ⟨by rfl, ?_⟩) (by assumption) ?_
                      · (intro w hSw; (try dsimp only at hSw); go_simp)
                      (try simp only [Act.put, List.getElem_toArray, List.getElem_cons_succ, List.getElem_cons_zero, List.setIfInBounds_toArray, List.set_cons_zero, List.set_cons_succ])
                      refine wpAnyH_take (i := 25) (v := .bool false) rfl (by kernel_rfl) (by kernel_rfl) (by kernel_rfl) (fun _ _ _ h => h) (Or.inl ⟨by rfl, ?_⟩) (by assumption) ?_
                      · (intro w hSw; (try dsimp only at hSw); go_simp)
                      (try simp only [Act.put, List.getElem_toArray, List.getElem_cons_succ, List.getElem_cons_zero, List.setIfInBounds_toArray, List.set_cons_zero, List.set_cons_succ])
                      refine wpAnyH_take (i := 26) (v := undef) rfl (by kernel_rfl) (by kernel_rfl) (by kernel_rfl) (fun _ _ _ h => h) (Or.inr ⟨by rfl, rfl⟩) (by assumption) ?_
                      (try simp only [Act.put, List.getElem_toArray, List.getElem_cons_succ, List.getElem_cons_zero, List.setIfInBounds_toArray, List.set_cons_zero, List.set_cons_succ])
                      refine wpAnyH_take (i := 27) (v := undef) rfl (by kernel_rfl) (by kernel_rfl) (by kernel_rfl) (fun _ _ _ h => h) (Or.inr ⟨by rfl, rfl⟩) (by assumption) ?_
                      (try simp only [Act.put, List.getElem_toArray, List.getElem_cons_succ, List.getElem_cons_zero, List.setIfInBounds_toArray, List.set_cons_zero, List.set_cons_succ])
                      refine wpAnyH_take (i := 28) (v := undef) rfl (by kernel_rfl) (by kernel_rfl) (by kernel_rfl) (fun _ _ _ h => h) (Or.inr ⟨by rfl, rfl⟩) (by assumption) ?_
                      (try simp only [Act.put, List.getElem_toArray, List.getElem_cons_succ, List.getElem_cons_zero, List.setIfInBounds_toArray, List.set_cons_zero, List.set_cons_succ])
                      refine wpAnyH_take (i := 29) (v := undef) rfl (by kernel_rfl) (by kernel_rfl) (by kernel_rfl) (fun _ _ _ h => h) (Or.inr ⟨by rfl, rfl⟩) (by assumption) ?_
                      (try simp only [Act.put, List.getElem_toArray, List.getElem_cons_succ, List.getElem_cons_zero, List.setIfInBounds_toArray, List.set_cons_zero, List.set_cons_succ])
                      refine wpAnyH_take (i := 30) (v := undef) rfl (by kernel_rfl) (by kernel_rfl) (by kernel_rfl) (fun _ _ _ h => h) (Or.inr ⟨by rfl, rfl⟩) (by assumption) ?_
                      (try simp only [Act.put, List.getElem_toArray, List.getElem_cons_succ, List.getElem_cons_zero, List.setIfInBounds_toArray, List.set_cons_zero, List.set_cons_succ])
                      refine wpAnyH_take (i := 31) (v := undef) rfl (by kernel_rfl) (by kernel_rfl) (by kernel_rfl) (fun _ _ _ h => h) (Or.inr ⟨by rfl, rfl⟩) (by assumption) ?_
                      (try simp only [Act.put, List.getElem_toArray, List.getElem_cons_succ, List.getElem_cons_zero, List.setIfInBounds_toArray, List.set_cons_zero, List.set_cons_succ])
                      refine wpAnyH_take (i := 32) (v := .bool false) rfl (by kernel_rfl) (by kernel_rfl) (by kernel_rfl) (fun _ _ _ h => h) (Or.inl ⟨by rfl, ?_⟩) (by assumption) ?_
                      · (intro w hSw; (try dsimp only at hSw); go_simp)
                      (try simp only [Act.put, List.getElem_toArray, List.getElem_cons_succ, List.getElem_cons_zero, List.setIfInBounds_toArray, List.set_cons_zero, List.set_cons_succ])
                      refine wpAnyH_take (i := 33) (v := .bool false) rfl (by kernel_rfl) (by kernel_rfl) (by kernel_rfl) (fun _ _ _ h => h) (Or.inl ⟨by rfl, ?_⟩) (by assumption) ?_
                      · (intro w hSw; (try dsimp only at hSw); go_simp)
                      (try simp only [Act.put, List.getElem_toArray, List.getElem_cons_succ, List.getElem_cons_zero, List.setIfInBounds_toArray, List.set_cons_zero, List.set_cons_succ])
                      refine wpAnyH_done (by kernel_rfl) ?_ _
                      go_wp2
                      go_roundw
                      case rel => exact ⟨i + 1, by omega, by go_num, BF⟩
                      case measure => simp [intOf]; omega


        · go_wp2
          go_ret
          exact ⟨rfl, BW.out.trans (hB2.out.mono BW.out.size)⟩

theorem walk (a : Option Addr) (len cap : Nat) (l : List Qu) (ub : Option Addr) (n uc : Nat) (us : List Us) (w : World) (h : HoldsQ w a len cap l) (hok : ∀ q ∈ l, q.ok) (hu : HoldsU w ub n uc us) (huk : ∀ u ∈ us, u.ok) :
    Calls Try.prog 4 #[.slice a len cap, .slice ub n uc] w fun e w' => e = .returned (.bool true) ∧ Below w.heap.size w w' := by
  by_cases hE : sumsE l us = 0
  · exact walk_good a len cap l ub n uc us w h hok hu huk hE
  · exact walk_bad a len cap l ub n uc us w h hok hu huk hE

theorem own : ownKnob Try.prog.godebug = none := by kernel_rfl
theorem laidOut : laidOutB Try.prog = true := by kernel_rfl

set_option maxRecDepth 100000 in
theorem lifted (os : Os) (started : os.Started) (H : Type) (enc : TypeId × Value → H) :
    ReturnsInHanded {} Try.checked os 4 .any (Rows.queueTotalsSpec.pre6 enc Try.prog Try.f4 Rows.queueTotalsRow.domain false) (Rows.queueTotalsSpec.post enc Try.prog Try.f4 false true false false) := by
  refine returnsInHanded_of_change (C := Try.checked) own started (by kernel_rfl) Try.func4
    (ChangeSpec.witness6 (enc := enc) (C := Try.checked) false ⟨#[], #[.slice none 0 0, .slice none 0 0], []⟩ 8 (by kernel_rfl) (by kernel_rfl) (by kernel_rfl) (by kernel_rfl)) ?_
  intro W base args ds gs before hval0 hW hcnd _
  have hval : ∀ (j : Nat) t v, Try.f4.params[j]? = some t → args[j]? = some v → Value.okWide Try.prog W .any base t v := hval0
  have hW' := hW
  obtain ⟨p, q, hA0, hV, rfl, hfz, hnd⟩ := hW
  have hA : DataW.TrodAll enc Try.prog W 0 (fun _ => true) true Try.f4.params.toList args.toList ds p := hA0
  rw [Try.params4] at hA hval
  obtain ⟨v0, vs0, d0, ds0, p0, q0, hargs, rfl, rfl, h0, r0⟩ := trodAll_cons hA
  obtain ⟨v1, vs1, d1, ds1, p1, q1, rfl, rfl, rfl, h1, r1⟩ := trodAll_cons r0
  obtain ⟨rfl, rfl, rfl⟩ := trodAll_nil r1
  obtain rfl : args = #[v0, v1] := by cases args; simp_all
  obtain ⟨rfl, rfl⟩ := trodVars_none hV
  have lt0 : ∀ x ∈ p0, x.block < W.heap.size := by obtain ⟨m, hm⟩ := h0; exact DataW.trod_lt m _ _ _ hm
  have lt1 : ∀ x ∈ p1, x.block < W.heap.size := by obtain ⟨m, hm⟩ := h1; exact DataW.trod_lt m _ _ _ hm
  obtain ⟨a0, len0, cap0, rfl⟩ := okWide_slice Try.underlying22 (hval 0 22 v0 rfl rfl)
  obtain ⟨z0, w0, k0, dr0⟩ := val_rowE (k := 7) (en := Qu.cs) (ok := Qu.ok) Try.underlying22 (by kernel_rfl) Qu.cs_len (by decide) (fun _ _ _ h => trod_queue h) h0
  obtain ⟨a1, len1, cap1, rfl⟩ := okWide_slice Try.underlying23 (hval 1 23 v1 rfl rfl)
  obtain ⟨z1, w1, k1, dr1⟩ := val_rowE (k := 3) (en := Us.cs) (ok := Us.ok) Try.underlying23 (by kernel_rfl) Us.cs_len (by decide) (fun _ _ _ h => trod_use h) h1
  clear hA0 hval0
  refine (walk a0 len0 cap0 z0 a1 len1 cap1 z1 W w0 k0 w1 k1).mono fun e W' ⟨he, bel⟩ => ?_
  subst he
  exact ⟨_, rfl, _, _, _, [], _, [], hW', trodAll_mk1 (shut_bool Try.underlying4 _), (trodAll_cons_mk (Below.trod laidOut (by kernel_rfl) (of_decide_eq_true (by kernel_rfl)) h0 bel lt0) (trodAll_cons_mk (Below.trod laidOut (by kernel_rfl) (of_decide_eq_true (by kernel_rfl)) h1 bel lt1) trodAll_mk0)), rfl, bel.frame _, fun h => by cases h⟩

theorem over : Rows.queueTotalsRow.holds Try.pinned (OpenSpec.ofChange Rows.queueTotalsSpec) :=
  OpenClaim.holds_of_wide 4 Try.f4 rfl rfl rfl rfl rfl rfl rfl ⟨rfl, rfl, rfl, rfl, rfl⟩ rfl rfl rfl rfl rfl (by kernel_rfl) Try.func4 (by kernel_rfl)
    (of_decide_eq_true (by kernel_rfl)) (by unfold Func.isWrapper; first | (rw [if_pos (by decide +kernel)]; kernel_rfl) | (rw [if_neg (by decide +kernel)]; exact ⟨rfl, rfl⟩))
    (fun os started H enc _ => lifted os started H enc)

theorem proved : Rows.QueueTotalsSaid := over
#print axioms proved

end Go.Proofs.Ytdomimpcjkajiaa.queueTotals
