/-
  Contracts of stride: strides, ranges, the search.
-/
import Derived.Test.YtdenhpclopjjgaaGD
namespace Go.Proofs.Ytdenhpclopjjgaa
open Go.RowKit Go.Deep Go.Maps
set_option linter.unusedVariables false
set_option linter.unusedSimpArgs false

theorem stv_tdiv {t : Int} (h1 : 1 ≤ t) (h2 : t ≤ 16) : Int.tdiv 720720 t = stv t := by unfold stv; rw [Int.tdiv_eq_ediv_of_nonneg (by omega)]
theorem stride_any (t : Int) (h1 : 1 ≤ t) (h2 : t ≤ 16) (w : World) : Calls Try.prog 29 #[.int .i64 t] w fun e w' => e = .returned (.int .i64 (stv t)) ∧ w = w' := by
  have hq := stv_tdiv h1 h2
  have hp := stv_pos h1 h2
  have hw : IntKind.i64.wrap (stv t) = stv t := by rw [IntKind.wrap_i64]; omega
  have hz : ¬ (t = 0) := by omega
  go_enter Try.func29, Try.ntmps29
  go_wp2
  go_ret
  exact ⟨rfl, rfl⟩

theorem inRange_any (t : Int) (w : World) : Calls Try.prog 28 #[.int .i64 t] w fun e w' => e = .returned (.bool (tkOk t)) ∧ w = w' := by
  by_cases h1 : 1 ≤ t
  · have t1 : decide (1 ≤ t) = true := by simp; omega
    have E : Hid (decide (t ≤ 16) = tkOk t) := by simp [Hid, tkOk, h1]
    go_enter Try.func28, Try.ntmps28
    go_wp2
    go_ret
    exact ⟨retb E.out, rfl⟩
  · have t1 : decide (1 ≤ t) = false := by simp; omega
    have E : Hid (false = tkOk t) := by simp [Hid, tkOk, h1]
    go_enter Try.func28, Try.ntmps28
    go_wp2
    go_ret
    exact ⟨retb E.out, rfl⟩

/-- -1, 0, 1. -/
def ordC (a b : Int) : Int := if a < b then -1 else if b < a then 1 else 0
theorem isNaN_any (a : Int) (w : World) : Calls Try.prog 44 #[.int .i64 a] w fun e w' => e = .returned (.bool false) ∧ w = w' := by
  have t1 : (a != a) = false := by simp
  go_enter Try.func44, Try.ntmps44
  go_wp2
  go_ret
  exact ⟨rfl, rfl⟩
theorem compare_any (a b : Int) (w : World) : Calls Try.prog 41 #[.int .i64 a, .int .i64 b] w fun e w' => e = .returned (.int .i64 (ordC a b)) ∧ w = w' := by
  by_cases h1 : a < b
  · have t1 : decide (a < b) = true := by simpa using h1
    have E : Hid (-1 = ordC a b) := by simp [Hid, ordC, h1]
    go_enter Try.func41, Try.ntmps41
    go_wp2_with (refine (isNaN_any _ _).mono ?_; rintro e w' ⟨rfl, rfl⟩)
    go_ret
    exact ⟨ret1 E.out, rfl⟩
  · have t1 : decide (a < b) = false := by simpa using h1
    by_cases h2 : b < a
    · have t2 : decide (b < a) = true := by simpa using h2
      have E : Hid (1 = ordC a b) := by simp [Hid, ordC, h1, h2]
      go_enter Try.func41, Try.ntmps41
      go_wp2_with (refine (isNaN_any _ _).mono ?_; rintro e w' ⟨rfl, rfl⟩)
      go_ret
      exact ⟨ret1 E.out, rfl⟩
    · have t2 : decide (b < a) = false := by simpa using h2
      have E : Hid (0 = ordC a b) := by simp [Hid, ordC, h1, h2]
      go_enter Try.func41, Try.ntmps41
      go_wp2_with (refine (isNaN_any _ _).mono ?_; rintro e w' ⟨rfl, rfl⟩)
      go_ret
      exact ⟨ret1 E.out, rfl⟩
theorem seek1_any (a b c x : Int) (w : World) : Calls Try.prog 40 #[.agg #[.int .i64 a, .int .i64 b, .int .i64 c], .int .i64 x] w fun e w' => e = .returned (.int .i64 (ordC a x)) ∧ Below w.heap.size w w' := by
  go_enter Try.func40, Try.ntmps40
  go_wp2_with (refine (compare_any _ _ _).mono ?_; rintro e w' ⟨rfl, rfl⟩)
  go_ret
  exact ⟨rfl, (Below.refl _ _).alloc (Nat.le_refl _) _⟩

theorem HoldsE.rowC {w : World} {a : Option Addr} {len cap : Nat} {l : List Cl} (h : HoldsC w a len cap l) (hp : 0 < len) : ∃ b off, a = some ⟨b, off, none⟩ ∧ b < w.heap.size ∧ ∀ j, j < len → w.cell? ⟨b, off + j * 3, none⟩ = some (.int .i64 (ca l j).id) ∧ w.cell? ⟨b, off + j * 3 + 1, none⟩ = some (.int .i64 (ca l j).tk) ∧ w.cell? ⟨b, off + j * 3 + 2, none⟩ = some (.int .i64 (ca l j).ps) := by
  obtain ⟨h1, h2, h3, h4, h5⟩ := h
  obtain ⟨b, off, e, hlt, hc⟩ := h5 hp
  refine ⟨b, off, e, hlt, fun j hj => ?_⟩
  have hh := hc j _ (ca_get (by omega))
  exact ⟨hh 0 _ rfl, hh 1 _ rfl, hh 2 _ rfl⟩

set_option maxRecDepth 100000 in
set_option maxHeartbeats 4000000 in
theorem bsf_any (a : Option Addr) (len ca' : Nat) (l : List Cl) (x : Int) (w : World) (h : HoldsC w a len ca' l) (hle : len ≤ 1024) (hr : ∀ i j, i < j → j < l.length → (ca l i).id < (ca l j).id) :
    Calls Try.prog 39 #[.slice a len ca', .int .i64 x, .func (.func 40) #[] #[]] w fun e w' => e = .returned (.tuple #[.int .i64 (sk l x : Int), .bool (hs l x)]) ∧ Below w.heap.size w w' := by
  have HH := hid h
  have HL := hid h.1
  have HS := hid hr
  have hcap := h.2.1
  clear h hr
  go_enter Try.func39, Try.ntmps39
  go_wp2_with fail
  go_loopw [9, 10] (fun u v wr => ∃ i j : Nat, i ≤ j ∧ j ≤ len ∧ u = .int .i64 i ∧ v = .int .i64 j ∧ Hid (∀ k, k < i → (ca l k).id < x) ∧ Hid (∀ k, j ≤ k → k < len → x ≤ (ca l k).id) ∧ Hid (Below w.heap.size w wr)) (fun u v _ => (intOf v).toNat - (intOf u).toNat)
  case atStart => exact ⟨0, len, by omega, by omega, rfl, rfl, fun k hk => by omega, fun k h1 h2 => by omega, Below.refl _ _⟩
  case round =>
    obtain ⟨i, j, hij, hj, rfl, rfl, h1, h2, hB⟩ := hrel
    by_cases hlt : i < j
    · have m1 : i ≤ (i + j) / 2 := by omega
      have m2 : (i + j) / 2 < j := by omega
      have ml : (i + j) / 2 < l.length := by rw [HL.out]; omega
      obtain ⟨b, off, rfl, hlt', R⟩ := HH.out.rowC (by omega)
      obtain ⟨c0, c1, c2⟩ := R ((i + j) / 2) (by omega)
      replace c0 := keepc hB.out c0
      replace c1 := keepc hB.out c1
      replace c2 := keepc hB.out c2
      clear R
      by_cases hc : (ca l ((i + j) / 2)).id < x
      · have N1 : Hid (∀ k, k < (i + j) / 2 + 1 → (ca l k).id < x) := fun k hk => by
          rcases Nat.lt_or_ge k ((i + j) / 2) with h | h
          · have := HS.out k _ h ml; omega
          · obtain rfl : k = (i + j) / 2 := by omega
            exact hc
        have o : ordC (ca l ((i + j) / 2)).id x = -1 := by unfold ordC; rw [if_pos hc]
        have t : decide ((-1 : Int) < 0) = true := by decide
        clear hc ml h1
        generalize (ca l ((i + j) / 2)).id = q at *
        generalize (ca l ((i + j) / 2)).tk = q1 at *
        generalize (ca l ((i + j) / 2)).ps = q2 at *
        go_wp2_with fail
        refine (seek1_any q q1 q2 x wr).mono ?_
        rintro e w1 ⟨rfl, b1⟩
        rw [o]
        have B1 := hid (hB.out.trans (b1.mono hB.out.size))
        go_wp2
        go_roundw
        case rel => exact ⟨(i + j) / 2 + 1, j, by omega, hj, by congr 1, rfl, N1, h2, B1⟩
        case measure => simp [intOf]; omega
      · have N1 : Hid (∀ k, (i + j) / 2 ≤ k → k < len → x ≤ (ca l k).id) := fun k hk hk2 => by
          rcases Nat.lt_or_ge ((i + j) / 2) k with h | h
          · have := HS.out _ k h (by rw [HL.out]; exact hk2); omega
          · obtain rfl : k = (i + j) / 2 := by omega
            omega
        have t : decide (ordC (ca l ((i + j) / 2)).id x < 0) = false := by
          unfold ordC
          rw [if_neg hc]
          split <;> decide
        clear hc ml h2
        generalize hq : (ca l ((i + j) / 2)).id = q at *
        generalize (ca l ((i + j) / 2)).tk = q1 at *
        generalize (ca l ((i + j) / 2)).ps = q2 at *
        clear hq
        go_wp2_with fail
        refine (seek1_any q q1 q2 x wr).mono ?_
        rintro e w1 ⟨rfl, b1⟩
        have B1 := hid (hB.out.trans (b1.mono hB.out.size))
        generalize ordC q x = oc at *
        go_wp2
        go_roundw
        case rel => exact ⟨i, (i + j) / 2, by omega, by omega, rfl, by congr 1, h1, N1, B1⟩
        case measure => simp [intOf]; omega
    · obtain rfl : i = j := by omega
      have E := hid (sk_eq (l := l) (id := x) (k := i) (by rw [HL.out]; exact hj) (fun k h => h1.out k h) (fun h => h2.out i (Nat.le_refl _) (by rw [HL.out] at h; exact h)))
      clear h1 h2
      by_cases hn : i < len
      · have EH : Hid (hs l x = (ordC (ca l i).id x == 0)) := by
          unfold Hid hs
          rw [E.out]
          have : i < l.length := by rw [HL.out]; exact hn
          unfold ordC
          by_cases h3 : (ca l i).id = x
          · simp [this, h3]
          · rcases Int.lt_or_gt_of_ne h3 with h4 | h4
            · simp [this, h3, h4]
            · have h5 : ¬ (ca l i).id < x := by omega
              simp [this, h3, h4, h5]
        obtain ⟨b, off, rfl, hlt', R⟩ := HH.out.rowC (by omega)
        obtain ⟨c0, c1, c2⟩ := R i hn
        replace c0 := keepc hB.out c0
        replace c1 := keepc hB.out c1
        replace c2 := keepc hB.out c2
        clear R
        generalize (ca l i).id = q at *
        generalize (ca l i).tk = q1 at *
        generalize (ca l i).ps = q2 at *
        have ia : (0 : Int) ≤ (i : Int) := by omega
        have ib : (i : Int) < (len : Int) := by omega
        go_wp2_with fail
        refine (seek1_any q q1 q2 x wr).mono ?_
        rintro e w1 ⟨rfl, b1⟩
        have B1 := hid (hB.out.trans (b1.mono hB.out.size))
        generalize ordC q x = oc at *
        go_wp2
        go_ret2
        rw [EH.out, E.out]
        exact ⟨rfl, B1⟩
      · have EH : Hid (hs l x = false) := by
          unfold Hid hs
          rw [E.out]
          have : ¬ i < l.length := by rw [HL.out]; exact hn
          simp [this]
        have ib : ¬ (i : Int) < (len : Int) := by omega
        go_wp2
        go_ret2
        rw [EH.out, E.out]
        exact ⟨rfl, hB.out⟩

/-- The pointer that a method of a group gets. -/
abbrev gp (gb : Nat) : Value := .pointer (some ⟨gb, 0, none⟩)

set_option maxHeartbeats 1000000 in
theorem seek_any (gb r : Nat) (l : List Cl) (x : Int) (w : World) (h : Grp w gb r l) (hg : Gr l) :
    Calls Try.prog 27 #[gp gb, .int .i64 x] w fun e w' => e = .returned (.tuple #[.int .i64 (sk l x : Int), .bool (hs l x)]) ∧ Below w.heap.size w w' := by
  obtain ⟨a, cap, c0, f0, hh, _⟩ := h.box
  have B := hid (bsf_any a l.length cap l x w hh hg.len hg.ids)
  clear h hg hh
  go_enter Try.func27, Try.ntmps27
  go_wp2_with fail
  refine B.out.mono ?_
  rintro e w1 ⟨rfl, b1⟩
  go_wp2
  go_ret2
  exact ⟨rfl, b1⟩

set_option maxRecDepth 100000 in
set_option maxHeartbeats 4000000 in
/-- The client that is least far. -/
theorem next_any (gb r : Nat) (l : List Cl) (w : World) (h : Grp w gb r l) (hp : 0 < l.length) (hle : l.length ≤ 1024) :
    Calls Try.prog 38 #[gp gb] w fun e w' => e = .returned (.pointer (some ⟨r, bs l * 3, none⟩)) ∧ Below w.heap.size w w' := by
  obtain ⟨cap, c0, hn, hr⟩ := h.row hp
  have HR := hid hr
  have hcl := hr.le
  obtain ⟨len, hlen⟩ : ∃ len, l.length = len := ⟨_, rfl⟩
  have E : Hid (bs l = nx l len) := by unfold Hid bs; rw [hlen]
  rw [hlen] at c0 HR hcl hp hle
  clear h hr hn
  have z0 : (0 : Int) < (len : Int) := by omega
  go_enter Try.func38, Try.ntmps38
  go_wp2_with fail
  go_loopw [3, 15] (fun u v wr => ∃ k : Nat, k ≤ len ∧ u = .pointer (some ⟨r, nx l k * 3, none⟩) ∧ v = .int .i64 k ∧ Hid (Below w.heap.size w wr)) (fun _ v _ => len - (intOf v).toNat)
  case atStart => exact ⟨0, by omega, by simp [nx], rfl, Below.refl _ _⟩
  case round =>
    obtain ⟨k, hk, rfl, rfl, hB⟩ := hrel
    by_cases hlt : k < len
    · have c0 := keepc hB.out c0
      have c1 := keepc hB.out (HR.out.c2 k hlt)
      have c2 := keepc hB.out (HR.out.c2 (nx l k) (by have := nx_le l k; omega))
      have ka : (0 : Int) ≤ (k : Int) := by omega
      have kb : (k : Int) < (len : Int) := by omega
      by_cases hc : (ca l k).ps < (ca l (nx l k)).ps
      · have E1 : nx l (k + 1) = k := by unfold nx; rw [if_pos hc]
        have t : decide ((ca l k).ps < (ca l (nx l k)).ps) = true := by simpa using hc
        clear hc
        generalize (ca l (nx l k)).ps = q1 at *
        generalize (ca l k).ps = q2 at *
        have HE := hid E1
        clear E1
        go_wp2_with fail
        go_quiet (fail)
        go_wp2
        go_roundw
        case rel => exact ⟨k + 1, by omega, by rw [HE.out], by go_num, below_drewN hB.out _⟩
        case measure => simp [intOf]; omega
      · have E1 : nx l (k + 1) = nx l k := by
          show (if _ then _ else _) = _
          rw [if_neg hc]
        have t : decide ((ca l k).ps < (ca l (nx l k)).ps) = false := by simpa using hc
        clear hc
        generalize (ca l (nx l k)).ps = q1 at *
        generalize (ca l k).ps = q2 at *
        have HE := hid E1
        clear E1
        go_wp2_with fail
        go_quiet (fail)
        go_wp2
        go_roundw
        case rel => exact ⟨k + 1, by omega, by rw [HE.out], by go_num, below_drewN hB.out _⟩
        case measure => simp [intOf]; omega
    · have kl : k = len := by omega
      subst kl
      go_wp2
      go_ret
      rw [E.out]
      exact ⟨rfl, hB.out⟩

end Go.Proofs.Ytdenhpclopjjgaa
