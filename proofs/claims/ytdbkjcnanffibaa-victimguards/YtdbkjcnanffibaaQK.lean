/-
  Contracts of queue: read, Check.
-/
import Derived.Test.YtdbkjcnanffibaaQF
namespace Go.Proofs.Ytdbkjcnanffibaa
open Go.RowKit Go.Deep Go.Maps Go.Shelf
set_option linter.unusedVariables false

theorem chkE_long {l : List Qu} (h : 64 < l.length) : chkE l = 3 := by unfold chkE; rw [if_pos h]
theorem chkE_form {l : List Qu} (h : ¬ 64 < l.length) (h2 : formB l = false) : chkE l = 4 := by unfold chkE; rw [if_neg h, if_pos h2]
theorem chkE_arg {l : List Qu} (h : ¬ 64 < l.length) (h2 : formB l = true) (h3 : argB l = false) : chkE l = 1 := by unfold chkE; rw [if_neg h, if_neg (by rw [h2]; decide), if_pos h3]
theorem chkE_mins {l : List Qu} (h : ¬ 64 < l.length) (h2 : formB l = true) (h3 : argB l = true) (h4 : minsB l = false) : chkE l = 11 := by unfold chkE; rw [if_neg h, if_neg (by rw [h2]; decide), if_neg (by rw [h3]; decide), if_pos h4]
theorem chkE_good {l : List Qu} (h : ¬ 64 < l.length) (h2 : formB l = true) (h3 : argB l = true) (h4 : minsB l = true) : chkE l = 0 := by unfold chkE; rw [if_neg h, if_neg (by rw [h2]; decide), if_neg (by rw [h3]; decide), if_neg (by rw [h4]; decide)]

/-- No tree. -/
abbrev notree : Value := .agg #[.slice none 0 0, .map none]

set_option maxRecDepth 100000 in
set_option maxHeartbeats 2000000 in
theorem read_any (a : Option Addr) (len cap : Nat) (l : List Qu) (w : World) (h : HoldsQ w a len cap l) (hok : ∀ q ∈ l, q.ok) :
    Calls Try.prog 31 #[.slice a len cap] w fun e w' => ((chkE l = 0 ∧ ∃ lb off mb, a = some ⟨lb, off, none⟩ ∧ e = .returned (.tuple #[tv lb off len cap mb, .int .i64 0]) ∧ Tree w' lb off len cap mb l) ∨ (chkE l ≠ 0 ∧ e = .returned (.tuple #[notree, .int .i64 (chkE l)]))) ∧ Below w.heap.size w w' := by
  have HH := hid h
  have HO := hid hok
  have HL := hid h.1
  have hcap0 := h.2.1
  clear h hok
  by_cases h64 : 64 < len
  · have E := hid (chkE_long (l := l) (by rw [HL.out]; exact h64))
    have t : decide ((64 : Int) < (len : Int)) = true := by simp; omega
    go_enter Try.func31, Try.ntmps31
    go_wp2
    rw [E.out]
    refine bodyPost_ret (v := .tuple #[notree, .int .i64 3]) (by simp [results, Try.results31, go_sem]) rfl ⟨.inr ⟨by decide, rfl⟩, (by repeat (first | exact Below.refl _ _ | assumption | refine Below.alloc ?_ (by simp <;> omega) _ | refine Below.setCell ?_ (by simp <;> omega) _ | refine Below.drew ?_ | refine below_drewN ?_ _))⟩
  · have H64 := hid h64
    have HL64 : Hid (¬ 64 < l.length) := by unfold Hid; rw [HL.out]; exact h64
    have t : decide ((64 : Int) < (len : Int)) = false := by simp; omega
    have hM := meet_any a len cap l (w.alloc (.cells #[.slice none 0 0, .map none] 73)) (HH.out.below (by repeat (first | exact Below.refl _ _ | assumption | refine Below.alloc ?_ (by simp <;> omega) _ | refine Below.setCell ?_ (by simp <;> omega) _ | refine Below.drew ?_ | refine below_drewN ?_ _))) HO.out (by omega)
    cases hf : formB l
    · have E := hid (chkE_form HL64.out hf)
      have HM := hid hM
      have HF := hid hf
      clear hM hf
      go_enter Try.func31, Try.ntmps31
      go_wp2_with fail
      refine HM.out.mono ?_
      rintro e w1 ⟨h1 | h1, hb1⟩
      · rw [HF.out] at h1; exact absurd h1.1 (by decide)
      · obtain ⟨_, rfl⟩ := h1
        have f0 := keepf hb1 (a := ⟨w.heap.size, 0, none⟩) (v := .slice none 0 0) (by simp [go_sem]) (by simp [go_sem])
        have c0 := keepc hb1 (a := ⟨w.heap.size, 0, none⟩) (v := .slice none 0 0) (by simp [go_sem])
        have f1 := keepf hb1 (a := ⟨w.heap.size, 1, none⟩) (v := .map none) (by simp [go_sem]) (by simp [go_sem])
        have c1 := keepc hb1 (a := ⟨w.heap.size, 1, none⟩) (v := .map none) (by simp [go_sem])
        have hlt := cell_lt c0
        simp only at hlt
        have hB1 : Below w.heap.size w w1 := Below.trans (by repeat (first | exact Below.refl _ _ | assumption | refine Below.alloc ?_ (by simp <;> omega) _ | refine Below.setCell ?_ (by simp <;> omega) _ | refine Below.drew ?_ | refine below_drewN ?_ _)) (hb1.mono (by simp <;> omega))
        go_wp2
        rw [E.out]
        refine bodyPost_ret (v := .tuple #[notree, .int .i64 4]) (by simp [results, Try.results31, go_sem, c0, c1, hlt]) rfl ⟨.inr ⟨by decide, rfl⟩, ?_⟩
        have hs1 := hB1.size
        exact (by repeat (first | exact Below.refl _ _ | assumption | refine Below.alloc ?_ (by simp <;> omega) _ | refine Below.setCell ?_ (by simp <;> omega) _ | refine Below.drew ?_ | refine below_drewN ?_ _))
    · obtain ⟨b, off, rfl, hR⟩ := HH.out.row (by have := (formB_iff.1 hf).1; rw [HL.out] at this; exact this)
      have HM := hid hM
      have HF := hid hf
      have hbw := hR.1
      clear hM hf hR
      have HT : Hid (∀ w1, Below (w.alloc (.cells #[.slice none 0 0, .map none] 73)).heap.size (w.alloc (.cells #[.slice none 0 0, .map none] 73)) w1 → PlM w1 (w.heap.size + 1) len l → Tree w1 b off len cap (w.heap.size + 1) l) := fun w1 hb hp => by
        obtain ⟨b', off', e, hR⟩ := (HH.out.below (Below.trans ((by repeat (first | exact Below.refl _ _ | assumption | refine Below.alloc ?_ (by simp <;> omega) _ | refine Below.setCell ?_ (by simp <;> omega) _ | refine Below.drew ?_ | refine below_drewN ?_ _))) (hb.mono (by simp)))).row (w := w1) (by have := (formB_iff.1 HF.out).1; rw [HL.out] at this; exact this)
        cases e
        exact ⟨HL.out, by omega, hcap0, formB_iff.1 HF.out, HO.out, hR, hp⟩
      cases ha : argB l
      · have E := hid (chkE_arg HL64.out HF.out ha)
        have HA := hid ha
        clear ha
        go_enter Try.func31, Try.ntmps31
        go_wp2_with fail
        refine HM.out.mono ?_
        rintro e w1 ⟨h1 | h1, hb1⟩
        · obtain ⟨_, rfl, hp1⟩ := h1
          simp only [World.size_alloc] at hp1
          have T1 := hid (HT.out w1 hb1 hp1)
          have f0 := keepf hb1 (a := ⟨w.heap.size, 0, none⟩) (v := .slice none 0 0) (by simp [go_sem]) (by simp [go_sem])
          have c0 := keepc hb1 (a := ⟨w.heap.size, 0, none⟩) (v := .slice none 0 0) (by simp [go_sem])
          have f1 := keepf hb1 (a := ⟨w.heap.size, 1, none⟩) (v := .map none) (by simp [go_sem]) (by simp [go_sem])
          have c1 := keepc hb1 (a := ⟨w.heap.size, 1, none⟩) (v := .map none) (by simp [go_sem])
          have hlt := cell_lt c0
          simp only at hlt
          have hB1 : Below w.heap.size w w1 := Below.trans (by repeat (first | exact Below.refl _ _ | assumption | refine Below.alloc ?_ (by simp <;> omega) _ | refine Below.setCell ?_ (by simp <;> omega) _ | refine Below.drew ?_ | refine below_drewN ?_ _)) (hb1.mono (by simp <;> omega))
          clear hp1 hb1
          go_wp2_with fail
          refine (inRange_q b off len cap (w.heap.size + 1) l _ (T1.out.below (by repeat (first | exact Below.refl _ _ | assumption | refine Below.alloc ?_ (by simp <;> omega) _ | refine Below.setCell ?_ (by simp <;> omega) _ | refine Below.drew ?_ | refine below_drewN ?_ _)))).mono ?_
          rintro e w2 ⟨rfl, hb2⟩
          rw [HA.out]
          have g0 := keepf hb2 (a := ⟨w.heap.size, 0, none⟩) (v := .slice none 0 0) (by simp [go_sem, c0, hlt]) (by simp [go_sem, f0, hlt])
          have d0 := keepc hb2 (a := ⟨w.heap.size, 0, none⟩) (v := .slice none 0 0) (by simp [go_sem, c0, hlt])
          have g1 := keepf hb2 (a := ⟨w.heap.size, 1, none⟩) (v := .map none) (by simp [go_sem, c1, hlt]) (by simp [go_sem, f1, hlt])
          have d1 := keepc hb2 (a := ⟨w.heap.size, 1, none⟩) (v := .map none) (by simp [go_sem, c1, hlt])
          have hlt2 := cell_lt d0
          simp only at hlt2
          have hB2 : Below w.heap.size w w2 := (hB1.alloc hB1.size (.cells #[.slice (some ⟨b, off, none⟩) len cap, .map (some (w.heap.size + 1))] 73)).trans (hb2.mono (by have := hB1.size; simp; omega))
          have hs2 := hB2.size
          clear c0 c1 f0 f1 hb2
          go_wp2
          rw [E.out]
          exact bodyPost_ret (v := .tuple #[notree, .int .i64 1]) (by simp [results, Try.results31, go_sem, d0, d1]) rfl ⟨.inr ⟨by decide, rfl⟩, (by repeat (first | exact Below.refl _ _ | assumption | refine Below.alloc ?_ (by simp <;> omega) _ | refine Below.setCell ?_ (by simp <;> omega) _ | refine Below.drew ?_ | refine below_drewN ?_ _))⟩
        · rw [HF.out] at h1; exact absurd h1.1 (by decide)
      · have HA := hid ha
        cases hm : minsB l
        · have E := hid (chkE_mins HL64.out HF.out ha hm)
          have HMM := hid hm
          clear ha hm
          go_enter Try.func31, Try.ntmps31
          go_wp2_with fail
          refine HM.out.mono ?_
          rintro e w1 ⟨h1 | h1, hb1⟩
          · obtain ⟨_, rfl, hp1⟩ := h1
            simp only [World.size_alloc] at hp1
            have T1 := hid (HT.out w1 hb1 hp1)
            have f0 := keepf hb1 (a := ⟨w.heap.size, 0, none⟩) (v := .slice none 0 0) (by simp [go_sem]) (by simp [go_sem])
            have c0 := keepc hb1 (a := ⟨w.heap.size, 0, none⟩) (v := .slice none 0 0) (by simp [go_sem])
            have f1 := keepf hb1 (a := ⟨w.heap.size, 1, none⟩) (v := .map none) (by simp [go_sem]) (by simp [go_sem])
            have c1 := keepc hb1 (a := ⟨w.heap.size, 1, none⟩) (v := .map none) (by simp [go_sem])
            have hlt := cell_lt c0
            simp only at hlt
            have hB1 : Below w.heap.size w w1 := Below.trans (by repeat (first | exact Below.refl _ _ | assumption | refine Below.alloc ?_ (by simp <;> omega) _ | refine Below.setCell ?_ (by simp <;> omega) _ | refine Below.drew ?_ | refine below_drewN ?_ _)) (hb1.mono (by simp <;> omega))
            clear hp1 hb1
            go_wp2_with fail
            refine (inRange_q b off len cap (w.heap.size + 1) l _ (T1.out.below (by repeat (first | exact Below.refl _ _ | assumption | refine Below.alloc ?_ (by simp <;> omega) _ | refine Below.setCell ?_ (by simp <;> omega) _ | refine Below.drew ?_ | refine below_drewN ?_ _)))).mono ?_
            rintro e w2 ⟨rfl, hb2⟩
            rw [HA.out]
            have g0 := keepf hb2 (a := ⟨w.heap.size, 0, none⟩) (v := .slice none 0 0) (by simp [go_sem, c0, hlt]) (by simp [go_sem, f0, hlt])
            have d0 := keepc hb2 (a := ⟨w.heap.size, 0, none⟩) (v := .slice none 0 0) (by simp [go_sem, c0, hlt])
            have g1 := keepf hb2 (a := ⟨w.heap.size, 1, none⟩) (v := .map none) (by simp [go_sem, c1, hlt]) (by simp [go_sem, f1, hlt])
            have d1 := keepc hb2 (a := ⟨w.heap.size, 1, none⟩) (v := .map none) (by simp [go_sem, c1, hlt])
            have t0 := keepc hb2 (a := ⟨w1.heap.size, 0, none⟩) (v := .slice (some ⟨b, off, none⟩) len cap) (by simp [go_sem])
            have t1 := keepc hb2 (a := ⟨w1.heap.size, 1, none⟩) (v := .map (some (w.heap.size + 1))) (by simp [go_sem])
            have T2 : Hid (Tree w2 b off len cap (w.heap.size + 1) l) := T1.out.below (Below.trans ((Below.refl _ w1).alloc (Nat.le_refl _) _) (hb2.mono (by simp)))
            have hlt2 := cell_lt d0
            have hlt3 := cell_lt t0
            simp only at hlt2 hlt3
            have hB2 : Below w.heap.size w w2 := (hB1.alloc hB1.size (.cells #[.slice (some ⟨b, off, none⟩) len cap, .map (some (w.heap.size + 1))] 73)).trans (hb2.mono (by have := hB1.size; simp; omega))
            have hs1 := hB1.size
            have hs2 := hB2.size
            clear c0 c1 f0 f1 hb2
            go_wp2_with fail
            refine (guaranteed_q b off len cap (w.heap.size + 1) l w2 T2.out HA.out).mono ?_
            rintro e w3 ⟨rfl, hb3⟩
            rw [HMM.out]
            have y0 := keepc hb3 d0; have y1 := keepc hb3 d1; have z0 := keepf hb3 d0 g0; have z1 := keepf hb3 d1 g1
            have v0 := keepc hb3 t0; have v1 := keepc hb3 t1
            have hB3 := hB2.trans (hb3.mono hB2.size)
            have T3 := hid (T2.out.below hb3)
            have hs3 := hB3.size
            clear d0 d1 g0 g1 t0 t1 hb3
            go_wp2
            rw [E.out]
            exact bodyPost_ret (v := .tuple #[notree, .int .i64 11]) (by simp [results, Try.results31, go_sem, y0, y1]) rfl ⟨.inr ⟨by decide, rfl⟩, (by repeat (first | exact Below.refl _ _ | assumption | refine Below.alloc ?_ (by simp <;> omega) _ | refine Below.setCell ?_ (by simp <;> omega) _ | refine Below.drew ?_ | refine below_drewN ?_ _))⟩
          · rw [HF.out] at h1; exact absurd h1.1 (by decide)
        · have E := hid (chkE_good HL64.out HF.out ha hm)
          have HMM := hid hm
          clear ha hm
          go_enter Try.func31, Try.ntmps31
          go_wp2_with fail
          refine HM.out.mono ?_
          rintro e w1 ⟨h1 | h1, hb1⟩
          · obtain ⟨_, rfl, hp1⟩ := h1
            simp only [World.size_alloc] at hp1
            have T1 := hid (HT.out w1 hb1 hp1)
            have f0 := keepf hb1 (a := ⟨w.heap.size, 0, none⟩) (v := .slice none 0 0) (by simp [go_sem]) (by simp [go_sem])
            have c0 := keepc hb1 (a := ⟨w.heap.size, 0, none⟩) (v := .slice none 0 0) (by simp [go_sem])
            have f1 := keepf hb1 (a := ⟨w.heap.size, 1, none⟩) (v := .map none) (by simp [go_sem]) (by simp [go_sem])
            have c1 := keepc hb1 (a := ⟨w.heap.size, 1, none⟩) (v := .map none) (by simp [go_sem])
            have hlt := cell_lt c0
            simp only at hlt
            have hB1 : Below w.heap.size w w1 := Below.trans (by repeat (first | exact Below.refl _ _ | assumption | refine Below.alloc ?_ (by simp <;> omega) _ | refine Below.setCell ?_ (by simp <;> omega) _ | refine Below.drew ?_ | refine below_drewN ?_ _)) (hb1.mono (by simp <;> omega))
            clear hp1 hb1
            go_wp2_with fail
            refine (inRange_q b off len cap (w.heap.size + 1) l _ (T1.out.below (by repeat (first | exact Below.refl _ _ | assumption | refine Below.alloc ?_ (by simp <;> omega) _ | refine Below.setCell ?_ (by simp <;> omega) _ | refine Below.drew ?_ | refine below_drewN ?_ _)))).mono ?_
            rintro e w2 ⟨rfl, hb2⟩
            rw [HA.out]
            have g0 := keepf hb2 (a := ⟨w.heap.size, 0, none⟩) (v := .slice none 0 0) (by simp [go_sem, c0, hlt]) (by simp [go_sem, f0, hlt])
            have d0 := keepc hb2 (a := ⟨w.heap.size, 0, none⟩) (v := .slice none 0 0) (by simp [go_sem, c0, hlt])
            have g1 := keepf hb2 (a := ⟨w.heap.size, 1, none⟩) (v := .map none) (by simp [go_sem, c1, hlt]) (by simp [go_sem, f1, hlt])
            have d1 := keepc hb2 (a := ⟨w.heap.size, 1, none⟩) (v := .map none) (by simp [go_sem, c1, hlt])
            have t0 := keepc hb2 (a := ⟨w1.heap.size, 0, none⟩) (v := .slice (some ⟨b, off, none⟩) len cap) (by simp [go_sem])
            have t1 := keepc hb2 (a := ⟨w1.heap.size, 1, none⟩) (v := .map (some (w.heap.size + 1))) (by simp [go_sem])
            have T2 : Hid (Tree w2 b off len cap (w.heap.size + 1) l) := T1.out.below (Below.trans ((Below.refl _ w1).alloc (Nat.le_refl _) _) (hb2.mono (by simp)))
            have hlt2 := cell_lt d0
            have hlt3 := cell_lt t0
            simp only at hlt2 hlt3
            have hB2 : Below w.heap.size w w2 := (hB1.alloc hB1.size (.cells #[.slice (some ⟨b, off, none⟩) len cap, .map (some (w.heap.size + 1))] 73)).trans (hb2.mono (by have := hB1.size; simp; omega))
            have hs1 := hB1.size
            have hs2 := hB2.size
            clear c0 c1 f0 f1 hb2
            go_wp2_with fail
            refine (guaranteed_q b off len cap (w.heap.size + 1) l w2 T2.out HA.out).mono ?_
            rintro e w3 ⟨rfl, hb3⟩
            rw [HMM.out]
            have y0 := keepc hb3 d0; have y1 := keepc hb3 d1; have z0 := keepf hb3 d0 g0; have z1 := keepf hb3 d1 g1
            have v0 := keepc hb3 t0; have v1 := keepc hb3 t1
            have hB3 := hB2.trans (hb3.mono hB2.size)
            have T3 := hid (T2.out.below hb3)
            have hs3 := hB3.size
            clear d0 d1 g0 g1 t0 t1 hb3
            go_wp2
            rw [E.out]
            refine bodyPost_ret (v := .tuple #[tv b off len cap (w.heap.size + 1), .int .i64 0]) (by simp [results, Try.results31, go_sem, y0, y1]) rfl ⟨.inl ⟨rfl, b, off, w.heap.size + 1, rfl, rfl, ?_⟩, (by repeat (first | exact Below.refl _ _ | assumption | refine Below.alloc ?_ (by simp <;> omega) _ | refine Below.setCell ?_ (by simp <;> omega) _ | refine Below.drew ?_ | refine below_drewN ?_ _))⟩
            have hlb := T1.out.row.1
            have hmb := T1.out.map.lt
            refine T3.out.same ?_ ?_
            · rw [Below.heap_setCell _ _ _ _ (by simp; omega), Below.heap_setCell _ _ _ _ (by simp; omega)]
            · rw [Below.heap_setCell _ _ _ _ (by simp), Below.heap_setCell _ _ _ _ (by simp)]
          · rw [HF.out] at h1; exact absurd h1.1 (by decide)

set_option maxHeartbeats 1000000 in
theorem check_q (a : Option Addr) (len cap : Nat) (l : List Qu) (w : World) (h : HoldsQ w a len cap l) (hok : ∀ q ∈ l, q.ok) :
    Calls Try.prog 38 #[.slice a len cap] w fun e w' => e = .returned (.int .i64 (chkE l)) ∧ Below w.heap.size w w' := by
  have H := hid (read_any a len cap l w h hok)
  clear h hok
  go_enter Try.func38, Try.ntmps38
  go_wp2_with fail
  refine H.out.mono ?_
  rintro e w1 ⟨h1 | h1, hb1⟩
  · obtain ⟨hE, lb, off, mb, rfl, rfl, _⟩ := h1
    have HE := hid hE
    clear hE
    have hs1 := hb1.size
    go_wp2
    go_ret
    exact ⟨ret1 HE.out.symm, (by repeat (first | exact Below.refl _ _ | assumption | refine Below.alloc ?_ (by first | omega | (simp <;> omega)) _ | refine Below.setCell ?_ (by first | omega | (simp <;> omega)) _ | refine Below.drew ?_ | refine below_drewN ?_ _))⟩
  · obtain ⟨_, rfl⟩ := h1
    have hs1 := hb1.size
    go_wp2
    go_ret
    exact ⟨rfl, (by repeat (first | exact Below.refl _ _ | assumption | refine Below.alloc ?_ (by first | omega | (simp <;> omega)) _ | refine Below.setCell ?_ (by first | omega | (simp <;> omega)) _ | refine Below.drew ?_ | refine below_drewN ?_ _))⟩

end Go.Proofs.Ytdbkjcnanffibaa
