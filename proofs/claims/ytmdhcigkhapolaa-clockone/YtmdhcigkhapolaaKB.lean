/-
  Contracts of clock: Len, Safe, Within; the document's Right, Len, Safe, Within.
-/
import Derived.Test.YtmdhcigkhapolaaKA
namespace Go.Proofs.Ytmdhcigkhapolaa
open Go.RowKit
set_option linter.unusedVariables false

theorem len1_any (B cap : Nat) (x : Int) (b : Bool) (hb : okl x = b) (w : World) (h0 : w.cell? ⟨B, 0, none⟩ = some (.int .i64 x)) :
    Calls Try.prog 48 #[.slice (some ⟨B, 0, none⟩) 1 cap] w fun e w' => e = .returned (.bool b) ∧ w = w' := by
  refine (lengths_any B cap 1 [x] w rfl (by omega) (fun j hj => ?_)).mono ?_
  · obtain rfl : j = 0 := by omega
    exact h0
  · rintro e w' ⟨rfl, rfl⟩
    exact ⟨retb (by rw [← hb]; simp), rfl⟩
theorem len2_any (B cap : Nat) (x y : Int) (b : Bool) (hb : (okl x && okl y) = b) (w : World) (h0 : w.cell? ⟨B, 0, none⟩ = some (.int .i64 x)) (h1 : w.cell? ⟨B, 1, none⟩ = some (.int .i64 y)) :
    Calls Try.prog 48 #[.slice (some ⟨B, 0, none⟩) 2 cap] w fun e w' => e = .returned (.bool b) ∧ w = w' := by
  refine (lengths_any B cap 2 [x, y] w rfl (by omega) (fun j hj => ?_)).mono ?_
  · obtain rfl | rfl : j = 0 ∨ j = 1 := by omega
    · exact h0
    · exact h1
  · rintro e w' ⟨rfl, rfl⟩
    exact ⟨retb (by rw [← hb]; simp), rfl⟩
theorem dr_any (d : Int) (b : Bool) (hb : okd d = b) (w : World) :
    Calls Try.prog 49 #[.int .i64 d] w fun e w' => e = .returned (.bool b) ∧ w = w' := by rw [← hb]; exact drifts_any d w

/-- The answers of clock's calls. -/
def safeB (l s d : Int) : Bool := okl l && okl s && okd d && decide (s * (1000 + d) ≤ l * (1000 - d))
def withB (t i d : Int) : Bool := okl t && okl i && okd d && decide ((1000 - d) * t ≤ 1000 * i) && decide (1000 * i ≤ (1000 + d) * t)
def okL (l d : Int) : Bool := decide (1 ≤ l) && okl l && okd d
def lenV (l d : Int) : Int := if okL l d = true then l * (1000 - d) / (1000 + d) else 0
def lenE (l d : Int) : Int := if okL l d = true then 0 else 1

theorem mul_bd {a b A B : Int} (h0 : 0 ≤ a) (h1 : a ≤ A) (h2 : 0 ≤ b) (h3 : b ≤ B) : 0 ≤ a * b ∧ a * b ≤ A * B :=
  ⟨Int.mul_nonneg h0 h2, Int.mul_le_mul h1 h3 h2 (by omega)⟩

theorem md_clock (a b c : Int) (a0 : 0 ≤ a) (a1 : a ≤ 1099511627776) (b0 : 0 ≤ b) (b1 : b ≤ 1000) (c0 : 1 ≤ c) (c1 : c ≤ 2000) (w : World) :
    Calls Try.prog 28 #[.int .i64 a, .int .i64 b, .int .i64 c] w fun e w' => e = .returned (.tuple #[.int .i64 (a * b / c), .int .i64 0]) ∧ Below w.heap.size w w' := by
  obtain ⟨m0, m1⟩ := mul_bd a0 a1 b0 b1
  have hh : hi ((a * b).natAbs : Int) = 0 := by unfold hi; omega
  have K := muldiv_of a b c ⟨by omega, by omega⟩ ⟨by omega, by omega⟩ c0 (by omega) (by omega) (div64_0 _ c (by omega) (by omega) c0 (by omega)) w
  have q0 : 0 ≤ a * b / c := Int.ediv_nonneg m0 (by omega)
  have q1 : a * b / c ≤ a * b := Int.ediv_le_self _ m0
  have e1 : mdv a b c = a * b / c := by unfold mdv; rw [if_neg (by omega), nv_in (by omega) (by omega)]
  have e2 : mde a b c = 0 := by unfold mde; rw [if_neg (by omega), ne_in (by omega) (by omega)]
  rw [e1, e2] at K
  exact K


set_option maxHeartbeats 1000000 in
theorem safe_any (l s d : Int) (w : World) :
    Calls Try.prog 22 #[.int .i64 l, .int .i64 s, .int .i64 d] w fun e w' => e = .returned (.bool (safeB l s d)) ∧ Below w.heap.size w w' := by
  cases hb : (okl l && okl s)
  · have E : Hid (false = safeB l s d) := by simp [Hid, safeB, hb]
    have HB := hid hb
    clear hb
    go_enter Try.func22, Try.ntmps22
    go_wp2_with fail
    refine (len2_any _ _ l s false HB.out _ (by simp [go_sem]) (by simp [go_sem])).mono ?_
    rintro e w1 ⟨rfl, rfl⟩
    go_wp2
    go_ret
    exact ⟨retb E.out, (by repeat (first | exact Below.refl _ _ | assumption | refine Below.alloc ?_ (by simp <;> omega) _ | refine Below.setCell ?_ (by simp <;> omega) _ | refine Below.drew ?_ | refine below_drewN ?_ _))⟩
  · have HB := hid hb
    have hx : okl l = true := by simp at hb; exact hb.1
    have hy : okl s = true := by simp at hb; exact hb.2
    cases hd : okd d
    · have E : Hid (false = safeB l s d) := by simp [Hid, safeB, hd]
      have HD := hid hd
      clear hb hd hx hy
      go_enter Try.func22, Try.ntmps22
      go_wp2_with fail
      refine (len2_any _ _ l s true HB.out _ (by simp [go_sem]) (by simp [go_sem])).mono ?_
      rintro e w1 ⟨rfl, rfl⟩
      go_wp2_with fail
      refine (dr_any d false HD.out _).mono ?_
      rintro e w1 ⟨rfl, rfl⟩
      go_wp2
      go_ret
      exact ⟨retb E.out, (by repeat (first | exact Below.refl _ _ | assumption | refine Below.alloc ?_ (by simp <;> omega) _ | refine Below.setCell ?_ (by simp <;> omega) _ | refine Below.drew ?_ | refine below_drewN ?_ _))⟩
    · have HD := hid hd
      obtain ⟨x0, x1⟩ := okl_t hx
      obtain ⟨y0, y1⟩ := okl_t hy
      obtain ⟨d0, d1⟩ := okd_t hd
      have E : Hid (decide (s * (1000 + d) ≤ l * (1000 - d)) = safeB l s d) := by simp [Hid, safeB, hx, hy, hd]
      clear hb hd hx hy
      obtain ⟨m0, m1⟩ := mul_bd y0 y1 (show 0 ≤ 1000 + d by omega) (show 1000 + d ≤ 2000 by omega)
      obtain ⟨n0, n1⟩ := mul_bd x0 x1 (show 0 ≤ 1000 - d by omega) (show 1000 - d ≤ 1000 by omega)
      go_enter Try.func22, Try.ntmps22
      go_wp2_with fail
      refine (len2_any _ _ l s true HB.out _ (by simp [go_sem]) (by simp [go_sem])).mono ?_
      rintro e w1 ⟨rfl, rfl⟩
      go_wp2_with fail
      refine (dr_any d true HD.out _).mono ?_
      rintro e w1 ⟨rfl, rfl⟩
      go_wp2_with fail
      refine (rates_any d d0 d1 _).mono ?_
      rintro e w1 ⟨rfl, rfl⟩
      go_wp2
      go_ret
      exact ⟨retb E.out, (by repeat (first | exact Below.refl _ _ | assumption | refine Below.alloc ?_ (by simp <;> omega) _ | refine Below.setCell ?_ (by simp <;> omega) _ | refine Below.drew ?_ | refine below_drewN ?_ _))⟩

set_option maxHeartbeats 1000000 in
theorem within_any (t i d : Int) (w : World) :
    Calls Try.prog 24 #[.int .i64 t, .int .i64 i, .int .i64 d] w fun e w' => e = .returned (.bool (withB t i d)) ∧ Below w.heap.size w w' := by
  cases hb : (okl t && okl i)
  · have E : Hid (false = withB t i d) := by simp [Hid, withB, hb]
    have HB := hid hb
    clear hb
    go_enter Try.func24, Try.ntmps24
    go_wp2_with fail
    refine (len2_any _ _ t i false HB.out _ (by simp [go_sem]) (by simp [go_sem])).mono ?_
    rintro e w1 ⟨rfl, rfl⟩
    go_wp2
    go_ret
    exact ⟨retb E.out, (by repeat (first | exact Below.refl _ _ | assumption | refine Below.alloc ?_ (by simp <;> omega) _ | refine Below.setCell ?_ (by simp <;> omega) _ | refine Below.drew ?_ | refine below_drewN ?_ _))⟩
  · have HB := hid hb
    have hx : okl t = true := by simp at hb; exact hb.1
    have hy : okl i = true := by simp at hb; exact hb.2
    cases hd : okd d
    · have E : Hid (false = withB t i d) := by simp [Hid, withB, hd]
      have HD := hid hd
      clear hb hd hx hy
      go_enter Try.func24, Try.ntmps24
      go_wp2_with fail
      refine (len2_any _ _ t i true HB.out _ (by simp [go_sem]) (by simp [go_sem])).mono ?_
      rintro e w1 ⟨rfl, rfl⟩
      go_wp2_with fail
      refine (dr_any d false HD.out _).mono ?_
      rintro e w1 ⟨rfl, rfl⟩
      go_wp2
      go_ret
      exact ⟨retb E.out, (by repeat (first | exact Below.refl _ _ | assumption | refine Below.alloc ?_ (by simp <;> omega) _ | refine Below.setCell ?_ (by simp <;> omega) _ | refine Below.drew ?_ | refine below_drewN ?_ _))⟩
    · have HD := hid hd
      obtain ⟨x0, x1⟩ := okl_t hx
      obtain ⟨y0, y1⟩ := okl_t hy
      obtain ⟨d0, d1⟩ := okd_t hd
      obtain ⟨m0, m1⟩ := mul_bd (show 0 ≤ 1000 - d by omega) (show 1000 - d ≤ 1000 by omega) x0 x1
      obtain ⟨n0, n1⟩ := mul_bd (show 0 ≤ 1000 + d by omega) (show 1000 + d ≤ 2000 by omega) x0 x1
      by_cases hc : (1000 - d) * t ≤ 1000 * i
      · have E : Hid (decide (1000 * i ≤ (1000 + d) * t) = withB t i d) := by simp [Hid, withB, hx, hy, hd, hc]
        have tc : decide ((1000 - d) * t ≤ 1000 * i) = true := by simp; omega
        clear hb hd hx hy
        go_enter Try.func24, Try.ntmps24
        go_wp2_with fail
        refine (len2_any _ _ t i true HB.out _ (by simp [go_sem]) (by simp [go_sem])).mono ?_
        rintro e w1 ⟨rfl, rfl⟩
        go_wp2_with fail
        refine (dr_any d true HD.out _).mono ?_
        rintro e w1 ⟨rfl, rfl⟩
        go_wp2_with fail
        refine (rates_any d d0 d1 _).mono ?_
        rintro e w1 ⟨rfl, rfl⟩
        go_wp2
        go_ret
        exact ⟨retb E.out, (by repeat (first | exact Below.refl _ _ | assumption | refine Below.alloc ?_ (by simp <;> omega) _ | refine Below.setCell ?_ (by simp <;> omega) _ | refine Below.drew ?_ | refine below_drewN ?_ _))⟩

      · have E : Hid (false = withB t i d) := by simp [Hid, withB, hx, hy, hd, hc]
        have tc : decide ((1000 - d) * t ≤ 1000 * i) = false := by simp; omega
        clear hb hd hx hy
        go_enter Try.func24, Try.ntmps24
        go_wp2_with fail
        refine (len2_any _ _ t i true HB.out _ (by simp [go_sem]) (by simp [go_sem])).mono ?_
        rintro e w1 ⟨rfl, rfl⟩
        go_wp2_with fail
        refine (dr_any d true HD.out _).mono ?_
        rintro e w1 ⟨rfl, rfl⟩
        go_wp2_with fail
        refine (rates_any d d0 d1 _).mono ?_
        rintro e w1 ⟨rfl, rfl⟩
        go_wp2
        go_ret
        exact ⟨retb E.out, (by repeat (first | exact Below.refl _ _ | assumption | refine Below.alloc ?_ (by simp <;> omega) _ | refine Below.setCell ?_ (by simp <;> omega) _ | refine Below.drew ?_ | refine below_drewN ?_ _))⟩

set_option maxHeartbeats 1000000 in
theorem len_any (l d : Int) (w : World) :
    Calls Try.prog 20 #[.int .i64 l, .int .i64 d] w fun e w' => e = .returned (.tuple #[.int .i64 (lenV l d), .int .i64 (lenE l d)]) ∧ Below w.heap.size w w' := by
  by_cases h1 : l < 1
  · have t1 : decide (l < 1) = true := by simp; omega
    have E : okL l d = false := by simp [okL]; omega
    have E1 : Hid (0 = lenV l d) := by simp [Hid, lenV, E]
    have E2 : Hid (1 = lenE l d) := by simp [Hid, lenE, E]
    clear E
    go_enter Try.func20, Try.ntmps20
    go_wp2
    go_ret2
    exact ⟨ret2 E1.out E2.out, (by repeat (first | exact Below.refl _ _ | assumption | refine Below.alloc ?_ (by simp <;> omega) _ | refine Below.setCell ?_ (by simp <;> omega) _ | refine Below.drew ?_ | refine below_drewN ?_ _))⟩
  · have t1 : decide (l < 1) = false := by simp; omega
    have t1' : decide (1 ≤ l) = true := by simp; omega
    cases hl : okl l
    · have E : okL l d = false := by simp [okL, hl]
      have E1 : Hid (0 = lenV l d) := by simp [Hid, lenV, E]
      have E2 : Hid (1 = lenE l d) := by simp [Hid, lenE, E]
      have HL := hid hl
      clear E hl
      go_enter Try.func20, Try.ntmps20
      go_wp2_with fail
      refine (len1_any _ _ l false HL.out _ (by simp [go_sem])).mono ?_
      rintro e w1 ⟨rfl, rfl⟩
      go_wp2
      go_ret2
      exact ⟨ret2 E1.out E2.out, (by repeat (first | exact Below.refl _ _ | assumption | refine Below.alloc ?_ (by simp <;> omega) _ | refine Below.setCell ?_ (by simp <;> omega) _ | refine Below.drew ?_ | refine below_drewN ?_ _))⟩
    · have HL := hid hl
      cases hd : okd d
      · have E : okL l d = false := by simp [okL, hd]
        have E1 : Hid (0 = lenV l d) := by simp [Hid, lenV, E]
        have E2 : Hid (1 = lenE l d) := by simp [Hid, lenE, E]
        have HD := hid hd
        clear E hl hd
        go_enter Try.func20, Try.ntmps20
        go_wp2_with fail
        refine (len1_any _ _ l true HL.out _ (by simp [go_sem])).mono ?_
        rintro e w1 ⟨rfl, rfl⟩
        go_wp2_with fail
        refine (dr_any d false HD.out _).mono ?_
        rintro e w1 ⟨rfl, rfl⟩
        go_wp2
        go_ret2
        exact ⟨ret2 E1.out E2.out, (by repeat (first | exact Below.refl _ _ | assumption | refine Below.alloc ?_ (by simp <;> omega) _ | refine Below.setCell ?_ (by simp <;> omega) _ | refine Below.drew ?_ | refine below_drewN ?_ _))⟩
      · have E : okL l d = true := by simp [okL, hl, hd, t1']
        have E1 : Hid (l * (1000 - d) / (1000 + d) = lenV l d) := by simp [Hid, lenV, E]
        have E2 : Hid (0 = lenE l d) := by simp [Hid, lenE, E]
        have HD := hid hd
        obtain ⟨x0, x1⟩ := okl_t hl
        obtain ⟨d0, d1⟩ := okd_t hd
        clear E hl hd t1'
        go_enter Try.func20, Try.ntmps20
        go_wp2_with fail
        refine (len1_any _ _ l true HL.out _ (by simp [go_sem])).mono ?_
        rintro e w1 ⟨rfl, rfl⟩
        go_wp2_with fail
        refine (dr_any d true HD.out _).mono ?_
        rintro e w1 ⟨rfl, rfl⟩
        go_wp2_with fail
        refine (rates_any d d0 d1 _).mono ?_
        rintro e w1 ⟨rfl, rfl⟩
        go_wp2_with fail
        refine (md_clock l (1000 - d) (1000 + d) x0 x1 (by omega) (by omega) (by omega) (by omega) _).mono ?_
        rintro e w1 ⟨rfl, q1⟩
        have g1 : Below w.heap.size w w1 := Below.trans (by repeat (first | exact Below.refl _ _ | assumption | refine Below.alloc ?_ (by simp <;> omega) _ | refine Below.setCell ?_ (by simp <;> omega) _ | refine Below.drew ?_ | refine below_drewN ?_ _)) (q1.mono (by simp <;> omega))
        go_wp2
        go_ret2
        exact ⟨ret2 E1.out E2.out, g1⟩


set_option maxHeartbeats 1000000 in
theorem right_any (a b d : Int) (w : World) :
    Calls Try.prog 51 #[.int .i64 a, .int .i64 b, .int .i64 d] w fun e w' => e = .returned (.bool (okl a && okl b && okd d)) ∧ w = w' := by
  by_cases h1 : 0 ≤ a
  · have t0 : decide (0 ≤ a) = true := by simp; omega
    by_cases h2 : a ≤ 1099511627776
    · have t1 : decide (a ≤ 1099511627776) = true := by simp; omega
      by_cases h3 : 0 ≤ b
      · have t2 : decide (0 ≤ b) = true := by simp; omega
        by_cases h4 : b ≤ 1099511627776
        · have t3 : decide (b ≤ 1099511627776) = true := by simp; omega
          by_cases h5 : 0 ≤ d
          · have t4 : decide (0 ≤ d) = true := by simp; omega
            have E : Hid (decide (d ≤ 999) = (okl a && okl b && okd d)) := by simp only [Hid, okl, okd]; rw [Bool.eq_iff_iff]; simp; omega
            go_enter Try.func51, Try.ntmps51
            go_wp2
            go_ret
            exact ⟨retb E.out, rfl⟩
          · have t4 : decide (0 ≤ d) = false := by simp; omega
            have E : Hid (false = (okl a && okl b && okd d)) := by simp only [Hid, okl, okd]; rw [Bool.eq_iff_iff]; simp; omega
            go_enter Try.func51, Try.ntmps51
            go_wp2
            go_ret
            exact ⟨retb E.out, rfl⟩
        · have t3 : decide (b ≤ 1099511627776) = false := by simp; omega
          have E : Hid (false = (okl a && okl b && okd d)) := by simp only [Hid, okl, okd]; rw [Bool.eq_iff_iff]; simp; omega
          go_enter Try.func51, Try.ntmps51
          go_wp2
          go_ret
          exact ⟨retb E.out, rfl⟩
      · have t2 : decide (0 ≤ b) = false := by simp; omega
        have E : Hid (false = (okl a && okl b && okd d)) := by simp only [Hid, okl, okd]; rw [Bool.eq_iff_iff]; simp; omega
        go_enter Try.func51, Try.ntmps51
        go_wp2
        go_ret
        exact ⟨retb E.out, rfl⟩
    · have t1 : decide (a ≤ 1099511627776) = false := by simp; omega
      have E : Hid (false = (okl a && okl b && okd d)) := by simp only [Hid, okl, okd]; rw [Bool.eq_iff_iff]; simp; omega
      go_enter Try.func51, Try.ntmps51
      go_wp2
      go_ret
      exact ⟨retb E.out, rfl⟩
  · have t0 : decide (0 ≤ a) = false := by simp; omega
    have E : Hid (false = (okl a && okl b && okd d)) := by simp only [Hid, okl, okd]; rw [Bool.eq_iff_iff]; simp; omega
    go_enter Try.func51, Try.ntmps51
    go_wp2
    go_ret
    exact ⟨retb E.out, rfl⟩

theorem right_v (a b d : Int) (c : Bool) (hc : (okl a && okl b && okd d) = c) (w : World) :
    Calls Try.prog 51 #[.int .i64 a, .int .i64 b, .int .i64 d] w fun e w' => e = .returned (.bool c) ∧ w = w' := by rw [← hc]; exact right_any a b d w

set_option maxHeartbeats 1000000 in
theorem rsafe_any (l s d : Int) (w : World) :
    Calls Try.prog 23 #[.int .i64 l, .int .i64 s, .int .i64 d] w fun e w' => e = .returned (.bool (safeB l s d)) ∧ w = w' := by
  cases hb : (okl l && okl s && okd d)
  · have E : Hid (false = safeB l s d) := by simp [Hid, safeB, hb]
    have HB := hid hb
    clear hb
    go_enter Try.func23, Try.ntmps23
    go_wp2_with fail
    refine (right_v l s d false HB.out _).mono ?_
    rintro e w1 ⟨rfl, rfl⟩
    go_wp2
    go_ret
    exact ⟨retb E.out, rfl⟩
  · have HB := hid hb
    obtain ⟨⟨hx, hy⟩, hd⟩ : (okl l = true ∧ okl s = true) ∧ okd d = true := by simpa using hb
    obtain ⟨x0, x1⟩ := okl_t hx
    obtain ⟨y0, y1⟩ := okl_t hy
    obtain ⟨d0, d1⟩ := okd_t hd
    have E : Hid (decide (s * (1000 + d) ≤ l * (1000 - d)) = safeB l s d) := by simp [Hid, safeB, hx, hy, hd]
    clear hb hd hx hy
    obtain ⟨m0, m1⟩ := mul_bd y0 y1 (show 0 ≤ 1000 + d by omega) (show 1000 + d ≤ 2000 by omega)
    obtain ⟨n0, n1⟩ := mul_bd x0 x1 (show 0 ≤ 1000 - d by omega) (show 1000 - d ≤ 1000 by omega)
    go_enter Try.func23, Try.ntmps23
    go_wp2_with fail
    refine (right_v l s d true HB.out _).mono ?_
    rintro e w1 ⟨rfl, rfl⟩
    go_wp2
    go_ret
    exact ⟨retb E.out, rfl⟩

set_option maxHeartbeats 1000000 in
theorem rwithin_any (t i d : Int) (w : World) :
    Calls Try.prog 25 #[.int .i64 t, .int .i64 i, .int .i64 d] w fun e w' => e = .returned (.bool (withB t i d)) ∧ w = w' := by
  cases hb : (okl t && okl i && okd d)
  · have E : Hid (false = withB t i d) := by simp [Hid, withB, hb]
    have HB := hid hb
    clear hb
    go_enter Try.func25, Try.ntmps25
    go_wp2_with fail
    refine (right_v t i d false HB.out _).mono ?_
    rintro e w1 ⟨rfl, rfl⟩
    go_wp2
    go_ret
    exact ⟨retb E.out, rfl⟩
  · have HB := hid hb
    obtain ⟨⟨hx, hy⟩, hd⟩ : (okl t = true ∧ okl i = true) ∧ okd d = true := by simpa using hb
    obtain ⟨x0, x1⟩ := okl_t hx
    obtain ⟨y0, y1⟩ := okl_t hy
    obtain ⟨d0, d1⟩ := okd_t hd
    obtain ⟨m0, m1⟩ := mul_bd (show 0 ≤ 1000 - d by omega) (show 1000 - d ≤ 1000 by omega) x0 x1
    obtain ⟨n0, n1⟩ := mul_bd (show 0 ≤ 1000 + d by omega) (show 1000 + d ≤ 2000 by omega) x0 x1
    by_cases hc : (1000 - d) * t ≤ 1000 * i
    · have E : Hid (decide (1000 * i ≤ (1000 + d) * t) = withB t i d) := by simp [Hid, withB, hx, hy, hd, hc]
      have tc : decide ((1000 - d) * t ≤ 1000 * i) = true := by simp; omega
      clear hb hd hx hy
      go_enter Try.func25, Try.ntmps25
      go_wp2_with fail
      refine (right_v t i d true HB.out _).mono ?_
      rintro e w1 ⟨rfl, rfl⟩
      go_wp2
      go_ret
      exact ⟨retb E.out, rfl⟩

    · have E : Hid (false = withB t i d) := by simp [Hid, withB, hx, hy, hd, hc]
      have tc : decide ((1000 - d) * t ≤ 1000 * i) = false := by simp; omega
      clear hb hd hx hy
      go_enter Try.func25, Try.ntmps25
      go_wp2_with fail
      refine (right_v t i d true HB.out _).mono ?_
      rintro e w1 ⟨rfl, rfl⟩
      go_wp2
      go_ret
      exact ⟨retb E.out, rfl⟩

theorem okl0 : okl 0 = true := by decide
set_option maxHeartbeats 1000000 in
theorem rlen_any (l d : Int) (w : World) :
    Calls Try.prog 21 #[.int .i64 l, .int .i64 d] w fun e w' => e = .returned (.tuple #[.int .i64 (lenV l d), .int .i64 (lenE l d)]) ∧ w = w' := by
  by_cases h1 : l < 1
  · have t1 : decide (l < 1) = true := by simp; omega
    have E : okL l d = false := by simp [okL]; omega
    have E1 : Hid (0 = lenV l d) := by simp [Hid, lenV, E]
    have E2 : Hid (1 = lenE l d) := by simp [Hid, lenE, E]
    clear E
    go_enter Try.func21, Try.ntmps21
    go_wp2
    go_ret2
    exact ⟨ret2 E1.out E2.out, rfl⟩
  · have t1 : decide (l < 1) = false := by simp; omega
    have t1' : decide (1 ≤ l) = true := by simp; omega
    cases hb : (okl l && okl 0 && okd d)
    · have E : okL l d = false := by simp [okl0] at hb; simp [okL]; intro _ h; exact hb h
      have E1 : Hid (0 = lenV l d) := by simp [Hid, lenV, E]
      have E2 : Hid (1 = lenE l d) := by simp [Hid, lenE, E]
      have HB := hid hb
      clear E hb
      go_enter Try.func21, Try.ntmps21
      go_wp2_with fail
      refine (right_v l 0 d false HB.out _).mono ?_
      rintro e w1 ⟨rfl, rfl⟩
      go_wp2
      go_ret2
      exact ⟨ret2 E1.out E2.out, rfl⟩
    · obtain ⟨hx, hd⟩ : okl l = true ∧ okd d = true := by simpa [okl0] using hb
      have E : okL l d = true := by simp [okL, hx, hd, t1']
      have E1 : Hid (l * (1000 - d) / (1000 + d) = lenV l d) := by simp [Hid, lenV, E]
      have E2 : Hid (0 = lenE l d) := by simp [Hid, lenE, E]
      have HB := hid hb
      obtain ⟨x0, x1⟩ := okl_t hx
      obtain ⟨d0, d1⟩ := okd_t hd
      obtain ⟨n0, n1⟩ := mul_bd x0 x1 (show 0 ≤ 1000 - d by omega) (show 1000 - d ≤ 1000 by omega)
      have q0 : 0 ≤ l * (1000 - d) / (1000 + d) := Int.ediv_nonneg n0 (by omega)
      have q1 : l * (1000 - d) / (1000 + d) ≤ l * (1000 - d) := Int.ediv_le_self _ n0
      clear E hb hx hd t1'
      go_enter Try.func21, Try.ntmps21
      go_wp2_with fail
      refine (right_v l 0 d true HB.out _).mono ?_
      rintro e w1 ⟨rfl, rfl⟩
      go_wp2
      go_ret2
      exact ⟨ret2 E1.out E2.out, rfl⟩

end Go.Proofs.Ytmdhcigkhapolaa
