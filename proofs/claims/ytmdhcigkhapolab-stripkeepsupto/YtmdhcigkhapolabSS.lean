/-
  Plain mathematics of strip: whatever one byte of guarded bytes is turned into, what was guarded is told.
-/
import Derived.Test.YtmdhcigkhapolabSQ
namespace Go.Proofs.Ytmdhcigkhapolab
open Go.RowKit
set_option linter.unusedVariables false

theorem set_getD (l : List Int) (k i : Nat) (y : Int) (hk : k < l.length) : (l.set k y)[i]?.getD 0 = if i = k then y else l[i]?.getD 0 := by
  by_cases h : i = k
  · subst h
    rw [if_pos rfl, List.getElem?_set_self hk]; rfl
  · rw [if_neg h, List.getElem?_set_ne (by omega)]
theorem W1_set (l : List Int) (k : Nat) (y : Int) (hk : k < l.length) (n : Nat) : W1 (l.set k y) n = W1 l n + if k < n then y - l[k]?.getD 0 else 0 := by
  induction n with
  | zero => simp [W1]
  | succ n ih =>
    rw [W1_succ, W1_succ, ih, set_getD l k n y hk]
    by_cases h1 : n = k
    · subst h1; simp; omega
    · rw [if_neg h1]
      by_cases h2 : k < n
      · rw [if_pos h2, if_pos (by omega)]; omega
      · rw [if_neg h2, if_neg (by omega)]; omega
theorem W2_set (l : List Int) (k : Nat) (y : Int) (hk : k < l.length) (n : Nat) : W2 (l.set k y) n = W2 l n + if k < n then (y - l[k]?.getD 0) * ((k : Int) + 1) else 0 := by
  induction n with
  | zero => simp [W2]
  | succ n ih =>
    rw [W2_succ, W2_succ, ih, set_getD l k n y hk]
    by_cases h1 : n = k
    · subst h1
      simp [Int.sub_mul]
      omega
    · rw [if_neg h1]
      by_cases h2 : k < n
      · rw [if_pos h2, if_pos (by omega)]; omega
      · rw [if_neg h2, if_neg (by omega)]; omega

/-- 65521 is a prime: no small number has a part with it. -/
theorem small_cop : ∀ d, d < 256 → 0 < d → Nat.gcd 65521 d = 1 := by decide +kernel
theorem prime_dvd (d j : Int) (hd : d ≠ 0) (d0 : -255 ≤ d) (d1 : d ≤ 255) (h : d * j % 65521 = 0) : j % 65521 = 0 := by
  have h1 : (65521 : Int) ∣ d * j := Int.dvd_of_emod_eq_zero h
  have h2 : (65521 : Nat) ∣ d.natAbs * j.natAbs := by
    have := Int.natAbs_dvd_natAbs.2 h1
    rw [Int.natAbs_mul] at this
    exact this
  have h3 : Nat.Coprime 65521 d.natAbs := small_cop d.natAbs (by omega) (by omega)
  have h4 := h3.dvd_of_dvd_mul_left h2
  have h5 : (65521 : Int) ∣ j := Int.natAbs_dvd_natAbs.1 h4
  exact Int.emod_eq_zero_of_dvd h5

/-- The gap that one turned byte leaves. -/
theorem gap_of (a b d : Int) (hb : b = a + d) : (a % 65521 - b % 65521 + 65521) % 65521 = (-d) % 65521 := by subst hb; omega

theorem opt_back (x y u : Int) (x0 : 0 ≤ x) (x1 : x ≤ 255) (y0 : 0 ≤ y) (y1 : y ≤ 255) (hu : u = (-(y - x)) % 65521) (hne : y ≠ x) : opt y u = some x := by
  unfold opt
  by_cases h : y < x
  · have e : u = x - y := by omega
    rw [if_pos (by omega), e]
    congr 1
    omega
  · have e : u = 65521 - (y - x) := by omega
    rw [if_neg (by omega), if_pos (by omega), e]
    congr 1
    omega

/-- The place that is told. -/
def placeOf (m k : Nat) : Int := if k < m then (k : Int) else (k : Int) - ((k : Int) - m) % 2

theorem gd_get (p : List Int) (i : Nat) : (gd p)[p.length + i]?.getD 0 = [P1 p / 256, P1 p % 256, P2 p / 256, P2 p % 256][i]?.getD 0 := by
  unfold gd
  rw [List.getElem?_append_right (by omega), Nat.add_sub_cancel_left]
theorem gd_len (p : List Int) : (gd p).length = p.length + 4 := by simp [gd]
theorem gd_low (p : List Int) (i : Nat) (h : i < p.length) : (gd p)[i]?.getD 0 = p[i]?.getD 0 := by
  unfold gd
  rw [List.getElem?_append_left h]

theorem mdM_gd (p : List Int) : mdM (gd p) p.length = (p, -1, 0) := by
  have e : (gd p).take p.length = p := by simp [gd]
  have g0 := gd_get p 0
  have g1 := gd_get p 1
  have g2 := gd_get p 2
  have g3 := gd_get p 3
  simp at g0 g1 g2 g3
  unfold mdM
  rw [e, g0, g1, g2, g3, if_pos (by constructor <;> omega)]

theorem mdM_high (p : List Int) (k : Nat) (y : Int) (hk : p.length ≤ k) (hk2 : k < p.length + 4) (y0 : 0 ≤ y) (y1 : y ≤ 255) (hne : y ≠ (gd p)[k]?.getD 0) : mdM ((gd p).set k y) p.length = (p, placeOf p.length k, 0) := by
  have e : ((gd p).set k y).take p.length = p := by
    rw [List.take_set, List.set_eq_of_length_le (by simp [gd_len]; omega)]
    simp [gd]
  have sg := fun i => set_getD (gd p) k i y (by rw [gd_len]; omega)
  have g0 := gd_get p 0
  have g1 := gd_get p 1
  have g2 := gd_get p 2
  have g3 := gd_get p 3
  have pb := P_bd p
  simp at g0 g1 g2 g3
  obtain ⟨i, rfl⟩ : ∃ i, k = p.length + i := ⟨k - p.length, by omega⟩
  have hp : placeOf p.length (p.length + i) = (p.length : Int) + i - (i : Int) % 2 := by
    unfold placeOf
    rw [if_neg (by omega)]
    omega
  rw [hp]
  have st : ∀ j : Nat, ((gd p).set (p.length + i) y)[p.length + j]?.getD 0 = if j = i then y else (gd p)[p.length + j]?.getD 0 := fun j => by
    rw [sg]
    by_cases h : j = i
    · rw [if_pos h, if_pos (by omega)]
    · rw [if_neg h, if_neg (by omega)]
  have s0 := st 0
  have s1 := st 1
  have s2 := st 2
  have s3 := st 3
  unfold mdM
  rw [e]
  obtain rfl | rfl | rfl | rfl : i = 0 ∨ i = 1 ∨ i = 2 ∨ i = 3 := by omega
  · rw [if_pos rfl] at s0
    rw [if_neg (by omega)] at s1
    rw [if_neg (by omega)] at s2
    rw [if_neg (by omega)] at s3
    simp only [Nat.add_zero] at s0 s1 s2 s3 hne ⊢
    rw [g0] at hne
    rw [g1] at s1
    rw [g2] at s2
    rw [g3] at s3
    rw [s0, s1, s2, s3]
    rw [if_neg (by omega), if_pos (by omega)]
    simp
  · rw [if_neg (by omega)] at s0
    rw [if_pos rfl] at s1
    rw [if_neg (by omega)] at s2
    rw [if_neg (by omega)] at s3
    simp only [Nat.add_zero] at s0 s1 s2 s3
    rw [g1] at hne
    rw [g0] at s0
    rw [g2] at s2
    rw [g3] at s3
    rw [s0, s1, s2, s3]
    rw [if_neg (by omega), if_pos (by omega)]
    simp
  · rw [if_neg (by omega)] at s0
    rw [if_neg (by omega)] at s1
    rw [if_pos rfl] at s2
    rw [if_neg (by omega)] at s3
    simp only [Nat.add_zero] at s0 s1 s2 s3
    rw [g2] at hne
    rw [g0] at s0
    rw [g1] at s1
    rw [g3] at s3
    rw [s0, s1, s2, s3]
    rw [if_neg (by omega), if_neg (by omega), if_pos (by omega)]
    simp
  · rw [if_neg (by omega)] at s0
    rw [if_neg (by omega)] at s1
    rw [if_neg (by omega)] at s2
    rw [if_pos rfl] at s3
    simp only [Nat.add_zero] at s0 s1 s2 s3
    rw [g3] at hne
    rw [g0] at s0
    rw [g1] at s1
    rw [g2] at s2
    rw [s0, s1, s2, s3]
    rw [if_neg (by omega), if_neg (by omega), if_pos (by omega)]
    simp
    omega

theorem mdM_low (p : List Int) (k : Nat) (y : Int) (hm : p.length ≤ 60000) (hb : BB p) (hk : k < p.length) (y0 : 0 ≤ y) (y1 : y ≤ 255) (hne : y ≠ p[k]?.getD 0) : mdM ((gd p).set k y) p.length = (p, placeOf p.length k, 0) := by
  have e : ((gd p).set k y).take p.length = p.set k y := by
    rw [List.take_set]
    simp [gd]
  have sg := fun i => set_getD (gd p) k i y (by rw [gd_len]; omega)
  have g0 := gd_get p 0
  have g1 := gd_get p 1
  have g2 := gd_get p 2
  have g3 := gd_get p 3
  have pb := P_bd p
  simp at g0 g1 g2 g3
  have xb := hb.getD k
  have w1 := W1_set p k y hk p.length
  have w2 := W2_set p k y hk p.length
  rw [if_pos hk] at w1 w2
  have hp : placeOf p.length k = (k : Int) := by unfold placeOf; rw [if_pos hk]
  generalize hx : p[k]?.getD 0 = x at *
  have p1 : P1 (p.set k y) = (W1 p p.length + (y - x)) % 65521 := by unfold P1; rw [List.length_set, w1]
  have p2 : P2 (p.set k y) = (W2 p p.length + (y - x) * ((k : Int) + 1)) % 65521 := by unfold P2; rw [List.length_set, w2]
  have q1 : P1 p = W1 p p.length % 65521 := rfl
  have q2 : P2 p = W2 p p.length % 65521 := rfl
  have zz : P1 p / 256 * 256 + P1 p % 256 = P1 p := by omega
  have tt : P2 p / 256 * 256 + P2 p % 256 = P2 p := by omega
  have nz : ∀ j : Int, -65521 < j → j < 65521 → j ≠ 0 → (y - x) * j % 65521 ≠ 0 := fun j j0 j1 jn h => by
    have := prime_dvd (y - x) j (by omega) (by omega) (by omega) h
    omega
  have n1 : ¬ P1 (p.set k y) = P1 p := by rw [p1, q1]; omega
  have n2 : ¬ P2 (p.set k y) = P2 p := by
    have := nz ((k : Int) + 1) (by omega) (by omega) (by omega)
    rw [p2, q2]
    generalize (y - x) * ((k : Int) + 1) = t at *
    omega
  have hU : gapU ((gd p).set k y) p.length = (-(y - x)) % 65521 := by
    unfold gapU
    rw [e, sg, sg, if_neg (by omega), if_neg (by omega), g0, g1, zz, p1, q1]
    exact gap_of _ _ _ rfl
  have hV : gapV ((gd p).set k y) p.length = (-((y - x) * ((k : Int) + 1))) % 65521 := by
    unfold gapV
    rw [e, sg, sg, if_neg (by omega), if_neg (by omega), g2, g3, tt, p2, q2]
    exact gap_of _ _ _ rfl
  have rr : rp (p.set k y) (gapU ((gd p).set k y) p.length) (gapV ((gd p).set k y) p.length) = some (k, x) := by
    rw [hU, hV]
    unfold rp
    rw [if_neg (by omega), List.length_set]
    have key : ∀ i : Nat, i < p.length → ((-(y - x)) % 65521 * ((i : Int) + 1) % 65521 = (-((y - x) * ((k : Int) + 1))) % 65521 ↔ i = k) := fun i hi => by
      rw [Int.mul_emod, Int.emod_emod, ← Int.mul_emod, Int.neg_mul]
      constructor
      · intro h
        by_cases hik : i = k
        · exact hik
        · have := nz ((i : Int) - k) (by omega) (by omega) (by omega)
          have ex : (y - x) * ((i : Int) - k) = (y - x) * ((i : Int) + 1) - (y - x) * ((k : Int) + 1) := by rw [← Int.mul_sub]; congr 1; omega
          rw [ex] at this
          generalize (y - x) * ((i : Int) + 1) = s at *
          generalize (y - x) * ((k : Int) + 1) = t at *
          omega
      · rintro rfl; rfl
    refine find_at hk (fun i hi => ?_) ?_
    · unfold hitB
      rw [if_neg (fun h => by have := (key i (by omega)).1 h; omega)]
      rfl
    · unfold hitB
      rw [if_pos ((key k hk).2 rfl), set_getD p k k y hk, if_pos rfl, opt_back x y _ xb.1 xb.2 y0 y1 rfl hne]
      rfl
  have back : rpL (p.set k y) (some (k, x)) = p := by
    show (p.set k y).set k x = p
    rw [List.set_set]
    have : x = p[k] := by rw [← hx, List.getElem?_eq_getElem hk]; rfl
    rw [this, List.set_getElem_self]
  rw [hp]
  unfold mdM
  have s0 : ((gd p).set k y)[p.length]?.getD 0 = P1 p / 256 := by rw [sg, if_neg (by omega), g0]
  have s1 : ((gd p).set k y)[p.length + 1]?.getD 0 = P1 p % 256 := by rw [sg, if_neg (by omega), g1]
  have s2 : ((gd p).set k y)[p.length + 2]?.getD 0 = P2 p / 256 := by rw [sg, if_neg (by omega), g2]
  have s3 : ((gd p).set k y)[p.length + 3]?.getD 0 = P2 p % 256 := by rw [sg, if_neg (by omega), g3]
  rw [e, rr, s0, s1, s2, s3, zz, tt]
  rw [if_neg (fun h => n1 h.1), if_neg n2, if_neg n1, if_pos (show rpO (some (k, x)) = true from rfl), back]
  rfl

theorem md_turned (p : List Int) (k : Nat) (y : Int) (hm : p.length ≤ 5000) (hb : BB p) (hk : k < p.length + 4) (y0 : 0 ≤ y) (y1 : y ≤ 255) : md ((gd p).set k y) = (p, if y = (gd p)[k]?.getD 0 then -1 else placeOf p.length k, 0) := by
  unfold md
  rw [List.length_set, gd_len, if_neg (by omega), if_neg (by omega), Nat.add_sub_cancel]
  by_cases h : y = (gd p)[k]?.getD 0
  · rw [if_pos h]
    have : (gd p).set k y = gd p := by
      have hk' : k < (gd p).length := by rw [gd_len]; exact hk
      have : y = (gd p)[k] := by rw [h, List.getElem?_eq_getElem hk']; rfl
      rw [this, List.set_getElem_self]
    rw [this]
    exact mdM_gd p
  · rw [if_neg h]
    by_cases hl : k < p.length
    · rw [gd_low p k hl] at h
      exact mdM_low p k y (by omega) hb hl y0 y1 h
    · exact mdM_high p k y (by omega) hk y0 y1 h

theorem xor_back (x t : Int) (x0 : 0 ≤ x) (x1 : x ≤ 255) (t0 : 0 ≤ t) (t1 : t ≤ 255) : 0 ≤ bits .xor .u8 x t ∧ bits .xor .u8 x t ≤ 255 ∧ (bits .xor .u8 x t = x ↔ t = 0) := by
  rw [u8_xor x t x0 (by omega) t0 (by omega)]
  have hl : x.toNat ^^^ t.toNat < 2 ^ 8 := Nat.xor_lt_two_pow (by omega) (by omega)
  refine ⟨by omega, by omega, fun h => ?_, fun h => ?_⟩
  · have h1 : x.toNat ^^^ t.toNat = x.toNat := by omega
    have h2 : x.toNat ^^^ (x.toNat ^^^ t.toNat) = 0 := by rw [h1, Nat.xor_self]
    rw [← Nat.xor_assoc, Nat.xor_self, Nat.zero_xor] at h2
    omega
  · subst h
    simp
    omega

end Go.Proofs.Ytmdhcigkhapolab
