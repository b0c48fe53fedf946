/- QueueApart: for every list of queues, every queue and every number the law answers true, and its arguments read as they did. No further conditions. -/
import Derived.Test.YtcfaciicljjpoaaQT
import Derived.Test.YtcfaciicljjpoaaQV
import Derived.Test.YtcfaciicljjpoaaRG
namespace Go.Proofs.Ytcfaciicljjpoaa.queueApart
open Go.ChangeShapes Go.WideShapes Go.ChangeAt Go.RowKit Go.Deep
set_option linter.unusedVariables false

set_option maxRecDepth 100000 in
set_option maxHeartbeats 8000000 in
theorem walk (a : Option Addr) (len cap : Nat) (l : List Qu) (q : Qu) (id : Int) (w : World) (h : HoldsQ w a len cap l) (hok : ∀ q ∈ l, q.ok) (hs : cap * 56 ≤ 140737488351232) (hq : q.ok) (hid' : I64 id) :
    Calls Try.prog 10 #[.slice a len cap, qv q, .int .i64 id] w fun e w' => e = .returned (.bool true) ∧ Below w.heap.size w w' := by
  have HO := hid hok
  have HI := hid hid'
  have HQ := hid hq
  have hcap0 := h.2.1
  have HL := hid h.1
  have LA := hid (addR_len l q)
  have LS := hid (setR_len l q)
  have LD := hid (downR_lenG l id)
  have t1 : (addE l q == addE l q) = true := by simp
  have t2 : (thereE l id == thereE l id) = true := by simp
  have t3 : (setE l q == setE l q) = true := by simp
  obtain ⟨q1, q2, q3, q4, q5, q6, q7⟩ := q
  try simp only at *
  have HH := hid (h.below ((Below.refl _ w).alloc (Nat.le_refl _) (.cells #[.int .i64 q1, .int .i64 q2, .int .i64 q3, .int .i64 q4, .int .i64 q5, .int .i64 q6, .int .i64 q7] 26)))
  have HW0 := hid ((Below.refl _ w).alloc (Nat.le_refl _) (.cells #[.int .i64 q1, .int .i64 q2, .int .i64 q3, .int .i64 q4, .int .i64 q5, .int .i64 q6, .int .i64 q7] 26))
  clear h hok hid' hq
  go_enter Try.func10, Try.ntmps10
  go_wp2_with fail
  refine (awake_any _).mono ?_
  rintro e w1 ⟨rfl, b1⟩
  have HB1 := hid b1
  have H1 := hid (HH.out.below b1)
  clear b1
  go_wp2_with fail
  refine (twin_free a len cap l w1 H1.out hs).mono ?_
  rintro e w2 ⟨g, c, rfl, T2, gl2, fz2, b2⟩
  have HT2 := hid T2
  have FZ2 := hid fz2
  have hg1 : w1.heap.size ≤ g := T2.1
  have HB2 := hid (HB1.out.trans (b2.mono HB1.out.size))
  clear T2 b2 fz2 H1
  have m0 := keepc HB2.out (a := ⟨w.heap.size, 0, none⟩) (v := .int .i64 q1) (by simp [go_sem])
  have m1 := keepc HB2.out (a := ⟨w.heap.size, 1, none⟩) (v := .int .i64 q2) (by simp [go_sem])
  have m2 := keepc HB2.out (a := ⟨w.heap.size, 2, none⟩) (v := .int .i64 q3) (by simp [go_sem])
  have m3 := keepc HB2.out (a := ⟨w.heap.size, 3, none⟩) (v := .int .i64 q4) (by simp [go_sem])
  have m4 := keepc HB2.out (a := ⟨w.heap.size, 4, none⟩) (v := .int .i64 q5) (by simp [go_sem])
  have m5 := keepc HB2.out (a := ⟨w.heap.size, 5, none⟩) (v := .int .i64 q6) (by simp [go_sem])
  have m6 := keepc HB2.out (a := ⟨w.heap.size, 6, none⟩) (v := .int .i64 q7) (by simp [go_sem])
  go_wp2_with fail
  refine (add_q (some ⟨g, 0, none⟩) len c l ⟨q1, q2, q3, q4, q5, q6, q7⟩ w2 HT2.out.holds HO.out HQ.out).mono ?_
  rintro e w3 ⟨v3, rfl, o3, b3⟩
  obtain ⟨a3, c3, rfl, P3, G3⟩ := o3.block
  have P3_3 := hid P3
  have HG3 := hid G3
  have UG3 := hid (fun b off hp e => P3.lt b off hp e)
  have HT3 := hid (HT2.out.below b3)
  have FZ3 : Hid (∀ j, w3.frozen? ⟨g, j, none⟩ = false) := fun j => by rw [World.frozen?_of_block (a := ⟨g, j, none⟩) (b3.block g gl2)]; exact FZ2.out j
  have gl3 := Nat.lt_of_lt_of_le gl2 b3.size
  have s3 := b3.size
  have HB3 := hid (HB2.out.trans (b3.mono HB2.out.size))
  clear o3 b3 P3 G3
  clear m0 m1 m2 m3 m4 m5 m6
  go_wp2_with fail
  refine (down_any (some ⟨g, 0, none⟩) len c l id w3 HT3.out.holds HO.out HI.out).mono ?_
  rintro e w4 ⟨v4, rfl, o4, b4⟩
  unfold AnsN at o4
  obtain ⟨a4, c4, rfl⟩ := o4.form
  have O4_4 := hid o4
  have P3_4 := hid (P3_3.out.below b4)
  have HT4 := hid (HT3.out.below b4)
  have FZ4 : Hid (∀ j, w4.frozen? ⟨g, j, none⟩ = false) := fun j => by rw [World.frozen?_of_block (a := ⟨g, j, none⟩) (b4.block g gl3)]; exact FZ3.out j
  have gl4 := Nat.lt_of_lt_of_le gl3 b4.size
  have s4 := b4.size
  have HB4 := hid (HB3.out.trans (b4.mono HB3.out.size))
  clear o4 b4
  go_wp2_with fail
  refine (down_any (some ⟨g, 0, none⟩) len c l id w4 HT4.out.holds HO.out HI.out).mono ?_
  rintro e w5 ⟨v5, rfl, o5, b5⟩
  obtain ⟨a5, c5, rfl, P5, G5⟩ := AnsN.block o5
  have P5_5 := hid P5
  have HG5 := hid G5
  have O4_5 := hid (O4_4.out.below b5)
  have P3_5 := hid (P3_4.out.below b5)
  have HT5 := hid (HT4.out.below b5)
  have FZ5 : Hid (∀ j, w5.frozen? ⟨g, j, none⟩ = false) := fun j => by rw [World.frozen?_of_block (a := ⟨g, j, none⟩) (b5.block g gl4)]; exact FZ4.out j
  have gl5 := Nat.lt_of_lt_of_le gl4 b5.size
  have s5 := b5.size
  have HB5 := hid (HB4.out.trans (b5.mono HB4.out.size))
  have L4 : Hid (∀ gb, 0 < (downR l id).length → a4 = some ⟨gb, 0, none⟩ → w3.heap.size ≤ gb ∧ gb < w4.heap.size) := fun gb hn e => by
    obtain ⟨g', cap', e', h1, h2, _⟩ := ownN_block O4_4.out hn
    simp at e'
    rw [e] at e'
    obtain ⟨e1, _⟩ := e'
    cases e1
    exact ⟨h1, h2⟩
  clear o5 b5 P5 G5
  have m0 := keepc HB5.out (a := ⟨w.heap.size, 0, none⟩) (v := .int .i64 q1) (by simp [go_sem])
  have m1 := keepc HB5.out (a := ⟨w.heap.size, 1, none⟩) (v := .int .i64 q2) (by simp [go_sem])
  have m2 := keepc HB5.out (a := ⟨w.heap.size, 2, none⟩) (v := .int .i64 q3) (by simp [go_sem])
  have m3 := keepc HB5.out (a := ⟨w.heap.size, 3, none⟩) (v := .int .i64 q4) (by simp [go_sem])
  have m4 := keepc HB5.out (a := ⟨w.heap.size, 4, none⟩) (v := .int .i64 q5) (by simp [go_sem])
  have m5 := keepc HB5.out (a := ⟨w.heap.size, 5, none⟩) (v := .int .i64 q6) (by simp [go_sem])
  have m6 := keepc HB5.out (a := ⟨w.heap.size, 6, none⟩) (v := .int .i64 q7) (by simp [go_sem])
  go_wp2_with fail
  refine (set_any (some ⟨g, 0, none⟩) len c l ⟨q1, q2, q3, q4, q5, q6, q7⟩ w5 HT5.out.holds HO.out HQ.out).mono ?_
  rintro e w6 ⟨v6, rfl, o6, b6⟩
  obtain ⟨a6, c6, rfl, P6, G6⟩ := o6.block
  have P6_6 := hid P6
  have HG6 := hid G6
  have P5_6 := hid (P5_5.out.below b6)
  have O4_6 := hid (O4_5.out.below b6)
  have P3_6 := hid (P3_5.out.below b6)
  have HT6 := hid (HT5.out.below b6)
  have FZ6 : Hid (∀ j, w6.frozen? ⟨g, j, none⟩ = false) := fun j => by rw [World.frozen?_of_block (a := ⟨g, j, none⟩) (b6.block g gl5)]; exact FZ5.out j
  have gl6 := Nat.lt_of_lt_of_le gl5 b6.size
  have s6 := b6.size
  have HB6 := hid (HB5.out.trans (b6.mono HB5.out.size))
  have hcc := HT6.out.holds.2.1
  have hcm := HT6.out.holds.2.2.1
  have hg0 : (w.alloc (.cells #[.int .i64 q1, .int .i64 q2, .int .i64 q3, .int .i64 q4, .int .i64 q5, .int .i64 q6, .int .i64 q7] 26)).heap.size ≤ g := Nat.le_trans HB1.out.size hg1
  clear o6 b6 P6 G6 FZ2 FZ3 FZ4 FZ5 HT2 HT3 HT4 HT5 P3_3 P3_4 P3_5 O4_4 O4_5 P5_5
  clear m0 m1 m2 m3 m4 m5 m6
  go_wp2_with fail
  go_loopw [54] (fun i wr => ∃ k : Nat, k ≤ len ∧ i = .int .i64 k ∧ Hid (Wrote g w6 wr) ∧ Hid (Below (w.alloc (.cells #[.int .i64 q1, .int .i64 q2, .int .i64 q3, .int .i64 q4, .int .i64 q5, .int .i64 q6, .int .i64 q7] 26)).heap.size (w.alloc (.cells #[.int .i64 q1, .int .i64 q2, .int .i64 q3, .int .i64 q4, .int .i64 q5, .int .i64 q6, .int .i64 q7] 26)) wr)) (fun i _ => len - (intOf i).toNat)
  case atStart => exact ⟨0, by omega, rfl, Wrote.refl _ _, HB6⟩
  case round =>
    obtain ⟨k, hk, rfl, hW, hB⟩ := hrel
    by_cases hlt : k < len
    · have hlt' : k < l.length := by rw [HL.out]; exact hlt
      have CE : ∀ i, i < 7 → ∃ z, wr.cell? ⟨g, k * 7 + i, none⟩ = some z := fun i hi => by
        refine Option.isSome_iff_exists.1 (hW.out.2.2.1 _ ?_)
        obtain ⟨b', off', e, R⟩ := HT6.out.holds.row (by omega)
        cases e
        obtain ⟨r0, r1, r2, r3, r4, r5, r6⟩ := R.2 k hlt'
        rw [Nat.zero_add] at r0 r1 r2 r3 r4 r5 r6
        match i, hi with
        | 0, _ => rw [Nat.add_zero, r0]; rfl
        | 1, _ => rw [r1]; rfl
        | 2, _ => rw [r2]; rfl
        | 3, _ => rw [r3]; rfl
        | 4, _ => rw [r4]; rfl
        | 5, _ => rw [r5]; rfl
        | 6, _ => rw [r6]; rfl
      obtain ⟨z0, x0⟩ := CE 0 (by omega)
      have y0 : wr.frozen? ⟨g, k * 7 + 0, none⟩ = false := by rw [hW.out.2.2.2]; exact FZ6.out _
      obtain ⟨z1, x1⟩ := CE 1 (by omega)
      have y1 : wr.frozen? ⟨g, k * 7 + 1, none⟩ = false := by rw [hW.out.2.2.2]; exact FZ6.out _
      obtain ⟨z2, x2⟩ := CE 2 (by omega)
      have y2 : wr.frozen? ⟨g, k * 7 + 2, none⟩ = false := by rw [hW.out.2.2.2]; exact FZ6.out _
      obtain ⟨z3, x3⟩ := CE 3 (by omega)
      have y3 : wr.frozen? ⟨g, k * 7 + 3, none⟩ = false := by rw [hW.out.2.2.2]; exact FZ6.out _
      obtain ⟨z4, x4⟩ := CE 4 (by omega)
      have y4 : wr.frozen? ⟨g, k * 7 + 4, none⟩ = false := by rw [hW.out.2.2.2]; exact FZ6.out _
      obtain ⟨z5, x5⟩ := CE 5 (by omega)
      have y5 : wr.frozen? ⟨g, k * 7 + 5, none⟩ = false := by rw [hW.out.2.2.2]; exact FZ6.out _
      obtain ⟨z6, x6⟩ := CE 6 (by omega)
      have y6 : wr.frozen? ⟨g, k * 7 + 6, none⟩ = false := by rw [hW.out.2.2.2]; exact FZ6.out _
      simp only [Nat.add_zero] at x0 y0
      have ka : (0 : Int) ≤ (k : Int) := by omega
      have kb : (k : Int) < (len : Int) := by omega
      clear CE
      go_wp2
      go_roundw
      case rel =>
        refine ⟨k + 1, by omega, by go_num, hW.out.set.set.set.set.set.set.set, ?_⟩
        exact ((((((hB.out.setCell (p := ⟨g, k * 7, none⟩) hg0 _).setCell (p := ⟨g, k * 7 + 1, none⟩) hg0 _).setCell (p := ⟨g, k * 7 + 2, none⟩) hg0 _).setCell (p := ⟨g, k * 7 + 3, none⟩) hg0 _).setCell (p := ⟨g, k * 7 + 4, none⟩) hg0 _).setCell (p := ⟨g, k * 7 + 5, none⟩) hg0 _).setCell (p := ⟨g, k * 7 + 6, none⟩) hg0 _
      case measure => simp [intOf]; omega
    · have P3_7 : Hid (HoldsQ wr a3 (addR l ⟨q1, q2, q3, q4, q5, q6, q7⟩).length c3 (addR l ⟨q1, q2, q3, q4, q5, q6, q7⟩)) := P3_6.out.same (by rw [hW.out.1]; exact Nat.le_refl _) (fun b off _ e => hW.out.2.1 b (by have := HG3.out b off none e; omega))
      have P5_7 : Hid (HoldsN wr a5 (downR l id).length c5 (downR l id)) := P5_6.out.same (by rw [hW.out.1]; exact Nat.le_refl _) (fun b off _ e => hW.out.2.1 b (by have := HG5.out b off none e; omega))
      have P6_7 : Hid (HoldsQ wr a6 (setR l ⟨q1, q2, q3, q4, q5, q6, q7⟩).length c6 (setR l ⟨q1, q2, q3, q4, q5, q6, q7⟩)) := P6_6.out.same (by rw [hW.out.1]; exact Nat.le_refl _) (fun b off _ e => hW.out.2.1 b (by have := HG6.out b off none e; omega))
      have N4 : Hid (0 < (downR l id).length → ∃ gb, a4 = some ⟨gb, 0, none⟩ ∧ (downR l id).length ≤ c4 ∧ c4 ≤ 9223372036854775807 ∧ w3.heap.size ≤ gb ∧ gb < w4.heap.size ∧ (∀ j, j < (downR l id).length → (wr.cell? ⟨gb, j, none⟩).isSome = true) ∧ (∀ j, wr.frozen? ⟨gb, j, none⟩ = false)) := fun hn => by
        obtain ⟨gb, cap', e', h1, h2, h3, h4, h5, h6⟩ := ownN_block O4_6.out hn
        simp at e'
        obtain ⟨e1, e2⟩ := e'
        subst e2
        obtain ⟨l1, l2⟩ := L4.out gb hn e1
        have hbk := hW.out.2.1 gb (by omega)
        exact ⟨gb, e1, h3, h4, l1, l2, fun j hj => by rw [World.cell?_of_block hbk]; exact h5 j hj, fun j => by rw [World.frozen?_of_block (a := ⟨gb, j, none⟩) hbk]; exact h6 j⟩
      have hsz := hW.out.1
      have HB7 := hB
      clear hW hB O4_6 P3_6 P5_6 P6_6 hk
      rename World => w7
      go_wp2_with fail
      go_loopw [64] (fun i wr => ∃ k : Nat, k ≤ (downR l id).length ∧ i = .int .i64 k ∧ Hid (Below (w.alloc (.cells #[.int .i64 q1, .int .i64 q2, .int .i64 q3, .int .i64 q4, .int .i64 q5, .int .i64 q6, .int .i64 q7] 26)).heap.size (w.alloc (.cells #[.int .i64 q1, .int .i64 q2, .int .i64 q3, .int .i64 q4, .int .i64 q5, .int .i64 q6, .int .i64 q7] 26)) wr) ∧ Hid (HoldsQ wr a3 (addR l ⟨q1, q2, q3, q4, q5, q6, q7⟩).length c3 (addR l ⟨q1, q2, q3, q4, q5, q6, q7⟩)) ∧ Hid (HoldsN wr a5 (downR l id).length c5 (downR l id)) ∧ Hid (HoldsQ wr a6 (setR l ⟨q1, q2, q3, q4, q5, q6, q7⟩).length c6 (setR l ⟨q1, q2, q3, q4, q5, q6, q7⟩)) ∧ Hid (∀ gb, a4 = some ⟨gb, 0, none⟩ → Wrote gb w7 wr)) (fun i _ => (downR l id).length - (intOf i).toNat)
      case atStart => exact ⟨0, by omega, rfl, HB7, P3_7, P5_7, P6_7, fun _ _ => Wrote.refl _ _⟩
      case round =>
        obtain ⟨k2, hk2, rfl, hB8, A8, C8, D8, hW8⟩ := hrel
        have LDo := LD.out
        by_cases hlt2 : k2 < (downR l id).length
        · obtain ⟨gb, rfl, hc4, hc4m, g1, g2, hce, hfr⟩ := N4.out (by omega)
          have HW8 := hW8.out gb rfl
          obtain ⟨z, x⟩ := Option.isSome_iff_exists.1 (HW8.2.2.1 k2 (hce k2 hlt2))
          have y : wr.frozen? ⟨gb, k2, none⟩ = false := by rw [HW8.2.2.2]; exact hfr k2
          have ka : (0 : Int) ≤ (k2 : Int) := by omega
          have kb : (k2 : Int) < ((downR l id).length : Int) := by omega
          have hg0b : (w.alloc (.cells #[.int .i64 q1, .int .i64 q2, .int .i64 q3, .int .i64 q4, .int .i64 q5, .int .i64 q6, .int .i64 q7] 26)).heap.size ≤ gb := by omega
          have R1 : Hid (Below (w.alloc (.cells #[.int .i64 q1, .int .i64 q2, .int .i64 q3, .int .i64 q4, .int .i64 q5, .int .i64 q6, .int .i64 q7] 26)).heap.size (w.alloc (.cells #[.int .i64 q1, .int .i64 q2, .int .i64 q3, .int .i64 q4, .int .i64 q5, .int .i64 q6, .int .i64 q7] 26)) (wr.setCell ⟨gb, k2, none⟩ (.int .i64 (-5)))) := hB8.out.setCell (p := ⟨gb, k2, none⟩) hg0b _
          have R2 : Hid (HoldsQ (wr.setCell ⟨gb, k2, none⟩ (.int .i64 (-5))) a3 (addR l ⟨q1, q2, q3, q4, q5, q6, q7⟩).length c3 (addR l ⟨q1, q2, q3, q4, q5, q6, q7⟩)) := A8.out.same (by simp) (fun b off hp e => Below.heap_setCell _ _ _ _ (by have := UG3.out b off hp e; show b ≠ gb; omega))
          have R3 : Hid (HoldsN (wr.setCell ⟨gb, k2, none⟩ (.int .i64 (-5))) a5 (downR l id).length c5 (downR l id)) := C8.out.same (by simp) (fun b off _ e => Below.heap_setCell _ _ _ _ (by have := HG5.out b off none e; show b ≠ gb; omega))
          have R4 : Hid (HoldsQ (wr.setCell ⟨gb, k2, none⟩ (.int .i64 (-5))) a6 (setR l ⟨q1, q2, q3, q4, q5, q6, q7⟩).length c6 (setR l ⟨q1, q2, q3, q4, q5, q6, q7⟩)) := D8.out.same (by simp) (fun b off _ e => Below.heap_setCell _ _ _ _ (by have := HG6.out b off none e; show b ≠ gb; omega))
          have R5 : Hid (Wrote gb w7 (wr.setCell ⟨gb, k2, none⟩ (.int .i64 (-5)))) := HW8.set
          generalize (downR l id).length = nd at *
          clear hce hfr HW8 hW8 A8 C8 D8 hB8
          go_wp2
          go_roundw
          case rel => exact ⟨k2 + 1, by omega, by go_num, R1, R2, R3, R4, fun gb' e => by cases e; exact R5.out⟩
          case measure => simp [intOf]; omega
        · have H8 := hid (HH.out.below hB8.out)
          have HB8 := hB8
          clear hW8 N4 hB8 P3_7 P5_7 P6_7 HB7
          rename World => w8
          have m0 := keepc HB8.out (a := ⟨w.heap.size, 0, none⟩) (v := .int .i64 q1) (by simp [go_sem])
          have m1 := keepc HB8.out (a := ⟨w.heap.size, 1, none⟩) (v := .int .i64 q2) (by simp [go_sem])
          have m2 := keepc HB8.out (a := ⟨w.heap.size, 2, none⟩) (v := .int .i64 q3) (by simp [go_sem])
          have m3 := keepc HB8.out (a := ⟨w.heap.size, 3, none⟩) (v := .int .i64 q4) (by simp [go_sem])
          have m4 := keepc HB8.out (a := ⟨w.heap.size, 4, none⟩) (v := .int .i64 q5) (by simp [go_sem])
          have m5 := keepc HB8.out (a := ⟨w.heap.size, 5, none⟩) (v := .int .i64 q6) (by simp [go_sem])
          have m6 := keepc HB8.out (a := ⟨w.heap.size, 6, none⟩) (v := .int .i64 q7) (by simp [go_sem])
          go_wp2_with fail
          refine (radd_any5 a len cap l ⟨q1, q2, q3, q4, q5, q6, q7⟩ w8 H8.out).mono ?_
          rintro e w9 ⟨v9, rfl, o9, b9⟩
          obtain ⟨a9, c9, rfl, P9⟩ := o9.holds
          have A9 := hid (A8.out.below b9)
          have C9 := hid (C8.out.below b9)
          have D9 := hid (D8.out.below b9)
          have P9_9 := hid P9
          have H9 := hid (H8.out.below b9)
          have HB9 := hid (HB8.out.trans (b9.mono HB8.out.size))
          clear o9 b9 P9 A8 C8 D8 H8 HB8 m0 m1 m2 m3 m4 m5 m6
          go_wp2_with fail
          refine (rBelow_any a len cap l id w9 H9.out).mono ?_
          rintro e w10 ⟨v10, rfl, o10, b10⟩
          unfold AnsN at o10
          obtain ⟨a10, c10, rfl⟩ := o10.form
          have Y10 := hid (o10.holds encN_len)
          have A10 := hid (A9.out.below b10)
          have C10 := hid (C9.out.below b10)
          have D10 := hid (D9.out.below b10)
          have P9_10 := hid (P9_9.out.below b10)
          have H10 := hid (H9.out.below b10)
          have HB10 := hid (HB9.out.trans (b10.mono HB9.out.size))
          clear o10 b10 A9 C9 D9 P9_9 H9 HB9
          have m0 := keepc HB10.out (a := ⟨w.heap.size, 0, none⟩) (v := .int .i64 q1) (by simp [go_sem])
          have m1 := keepc HB10.out (a := ⟨w.heap.size, 1, none⟩) (v := .int .i64 q2) (by simp [go_sem])
          have m2 := keepc HB10.out (a := ⟨w.heap.size, 2, none⟩) (v := .int .i64 q3) (by simp [go_sem])
          have m3 := keepc HB10.out (a := ⟨w.heap.size, 3, none⟩) (v := .int .i64 q4) (by simp [go_sem])
          have m4 := keepc HB10.out (a := ⟨w.heap.size, 4, none⟩) (v := .int .i64 q5) (by simp [go_sem])
          have m5 := keepc HB10.out (a := ⟨w.heap.size, 5, none⟩) (v := .int .i64 q6) (by simp [go_sem])
          have m6 := keepc HB10.out (a := ⟨w.heap.size, 6, none⟩) (v := .int .i64 q7) (by simp [go_sem])
          go_wp2_with fail
          refine (rset_any a len cap l ⟨q1, q2, q3, q4, q5, q6, q7⟩ w10 H10.out).mono ?_
          rintro e w11 ⟨v11, rfl, o11, b11⟩
          obtain ⟨a11, c11, rfl, P11⟩ := o11.holds
          have Z11 := hid P11
          have A11 := hid (A10.out.below b11)
          have C11 := hid (C10.out.below b11)
          have D11 := hid (D10.out.below b11)
          have X11 := hid (P9_10.out.below b11)
          have Y11 := hid (Y10.out.below b11)
          have HB11 := hid (HB10.out.trans (b11.mono HB10.out.size))
          clear o11 b11 P11 A10 C10 D10 P9_10 Y10 H10 HB10 m0 m1 m2 m3 m4 m5 m6
          go_wp2_with fail
          refine (same_any a3 a9 _ c3 c9 (addR l ⟨q1, q2, q3, q4, q5, q6, q7⟩) w11 A11.out X11.out (by have := LA.out; omega)).mono ?_
          rintro e w12 ⟨rfl, b12⟩
          have C12 := hid (C11.out.below b12)
          have D12 := hid (D11.out.below b12)
          have Y12 := hid (Y11.out.below b12)
          have Z12 := hid (Z11.out.below b12)
          have HB12 := hid (HB11.out.trans (b12.mono HB11.out.size))
          clear b12 A11 X11 C11 D11 Y11 Z11 HB11
          go_wp2_with fail
          refine (ints_any a5 a10 _ c5 c10 (downR l id) w12 C12.out Y12.out (by omega)).mono ?_
          rintro e w13 ⟨rfl, b13⟩
          have D13 := hid (D12.out.below b13)
          have Z13 := hid (Z12.out.below b13)
          have HB13 := hid (HB12.out.trans (b13.mono HB12.out.size))
          clear b13 C12 Y12 D12 Z12 HB12
          go_wp2_with fail
          refine (same_any a6 a11 _ c6 c11 (setR l ⟨q1, q2, q3, q4, q5, q6, q7⟩) w13 D13.out Z13.out (by have := LS.out; omega)).mono ?_
          rintro e w14 ⟨rfl, b14⟩
          have HB14 := hid (HB13.out.trans (b14.mono HB13.out.size))
          clear b14 D13 Z13 HB13
          go_wp2
          go_ret
          exact ⟨rfl, HW0.out.trans (HB14.out.mono HW0.out.size)⟩

theorem own : ownKnob Try.prog.godebug = none := by kernel_rfl
theorem laidOut : laidOutB Try.prog = true := by kernel_rfl

set_option maxRecDepth 100000 in
theorem lifted (os : Os) (started : os.Started) (H : Type) (enc : TypeId × Value → H) :
    ReturnsInHanded {} Try.checked os 10 .any (Rows.queueApartSpec.pre6 enc Try.prog Try.f10 Rows.queueApartRow.domain false) (Rows.queueApartSpec.post enc Try.prog Try.f10 false true false false) := by
  refine returnsInHanded_of_change_sized (C := Try.checked) own started (by kernel_rfl) Try.func10
    (ChangeSpec.witness6 (enc := enc) (C := Try.checked) false ⟨#[], #[.slice none 0 0, .agg #[.int .i64 0, .int .i64 0, .int .i64 0, .int .i64 0, .int .i64 0, .int .i64 0, .int .i64 0], .int .i64 0], []⟩ 8 (by kernel_rfl) (by kernel_rfl) (by kernel_rfl) (by kernel_rfl)) ?_
  intro W base args ds gs before hval0 hW hcnd hsz0 _
  have hsz : (DataW.weightsEach Try.prog (Try.f10.params.toList ++ Rows.queueApartSpec.plain.varTypes Try.prog) (ds ++ gs)).all (· ≤ reachBytes) = true := hsz0
  have hval : ∀ (j : Nat) t v, Try.f10.params[j]? = some t → args[j]? = some v → Value.okWide Try.prog W .any base t v := hval0
  have hW' := hW
  obtain ⟨p, q, hA0, hV, rfl, hfz, hnd⟩ := hW
  have hA : DataW.TrodAll enc Try.prog W 0 (fun _ => true) true Try.f10.params.toList args.toList ds p := hA0
  rw [Try.params10] at hA hval hsz
  obtain ⟨v0, vs0, d0, ds0, p0, q0, hargs, rfl, rfl, h0, r0⟩ := trodAll_cons hA
  obtain ⟨v1, vs1, d1, ds1, p1, q1, rfl, rfl, rfl, h1, r1⟩ := trodAll_cons r0
  obtain ⟨v2, vs2, d2, ds2, p2, q2, rfl, rfl, rfl, h2, r2⟩ := trodAll_cons r1
  obtain ⟨rfl, rfl, rfl⟩ := trodAll_nil r2
  obtain rfl : args = #[v0, v1, v2] := by cases args; simp_all
  obtain ⟨rfl, rfl⟩ := trodVars_none hV
  have lt0 : ∀ x ∈ p0, x.block < W.heap.size := by obtain ⟨m, hm⟩ := h0; exact DataW.trod_lt m _ _ _ hm
  have lt1 : ∀ x ∈ p1, x.block < W.heap.size := by obtain ⟨m, hm⟩ := h1; exact DataW.trod_lt m _ _ _ hm
  have lt2 : ∀ x ∈ p2, x.block < W.heap.size := by obtain ⟨m, hm⟩ := h2; exact DataW.trod_lt m _ _ _ hm
  obtain ⟨a0, len0, cap0, rfl⟩ := okWide_slice Try.underlying22 (hval 0 22 v0 rfl rfl)
  obtain ⟨z0, w0, k0, dr0⟩ := val_rowE (k := 7) (en := Qu.cs) (ok := Qu.ok) Try.underlying22 (by kernel_rfl) Qu.cs_len (by decide) (fun _ _ _ h => trod_queue h) h0
  have s0 : cap0 * 56 ≤ 140737488351232 := sized_cap dr0 hsz (j := 0) rfl rfl Try.underlying22 (by kernel_rfl)
  obtain ⟨a1, rfl, w1⟩ := val_queue (hval 1 26 v1 rfl rfl) h1
  obtain ⟨a2, rfl, w2⟩ := val_i64 Try.underlying3 (hval 2 3 v2 rfl rfl) h2
  clear hA0 hval0
  refine (walk a0 len0 cap0 z0 a1 a2 W w0 k0 s0 w1 w2).mono fun e W' ⟨he, bel⟩ => ?_
  subst he
  exact ⟨_, rfl, _, _, _, [], _, [], hW', trodAll_mk1 (shut_bool Try.underlying4 _), (trodAll_cons_mk (Below.trod laidOut (by kernel_rfl) (of_decide_eq_true (by kernel_rfl)) h0 bel lt0) (trodAll_cons_mk (Below.trod laidOut (by kernel_rfl) (of_decide_eq_true (by kernel_rfl)) h1 bel lt1) (trodAll_cons_mk (Below.trod laidOut (by kernel_rfl) (of_decide_eq_true (by kernel_rfl)) h2 bel lt2) trodAll_mk0))), rfl, bel.frame _, fun h => by cases h⟩

theorem over : Rows.queueApartRow.holds Try.pinned (OpenSpec.ofChange Rows.queueApartSpec) :=
  OpenClaim.holds_of_wide 10 Try.f10 rfl rfl rfl rfl rfl rfl rfl ⟨rfl, rfl, rfl, rfl, rfl⟩ rfl rfl rfl rfl rfl (by kernel_rfl) Try.func10 (by kernel_rfl)
    (of_decide_eq_true (by kernel_rfl)) (by unfold Func.isWrapper; first | (rw [if_pos (by decide +kernel)]; kernel_rfl) | (rw [if_neg (by decide +kernel)]; exact ⟨rfl, rfl⟩))
    (fun os started H enc _ => lifted os started H enc)

theorem proved : Rows.QueueApartSaid := over
#print axioms proved
end Go.Proofs.Ytcfaciicljjpoaa.queueApart
