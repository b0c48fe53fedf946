/-
  Contract: a product divided, by the document.
-/
import Derived.Test.YtmajoognpggcpaaWT
import Derived.Deep.RegionWith
namespace Go.Proofs.Ytmajoognpggcpaa
open Go.RowKit
set_option linter.unusedVariables false

/-- The loop's numbers: q is at most Q, which is below q and so much more; all is within int64. -/
def Near (q Q : Int) (k : Nat) : Prop := q ≤ Q ∧ Q < q + 2 ^ k ∧ -9223372036854775808 ≤ q ∧ q + 2 ^ k ≤ 9223372036854775808 ∧ k ≤ 63

theorem near_start {p c x0 : Int} (hc : 1 ≤ c) (r1 : -9223372036854775808 * c ≤ p) (r2 : p < 9223372036854775807 * c + c) (hx : (p < 0 ∧ x0 = -9223372036854775808) ∨ (0 ≤ p ∧ x0 = 0)) : Near x0 (p / c) 63 := by
  have a : -9223372036854775808 ≤ p / c := (Int.le_ediv_iff_mul_le (by omega)).2 r1
  have b : p / c < 9223372036854775808 := (Int.ediv_lt_iff_lt_mul (by omega)).2 (by omega)
  have e : (2 : Int) ^ 63 = 9223372036854775808 := by decide
  rcases hx with ⟨h, rfl⟩ | ⟨h, rfl⟩
  · have : p / c < 0 := Int.ediv_neg_of_neg_of_pos h (by omega)
    exact ⟨a, by rw [e]; omega, by omega, by rw [e]; omega, by omega⟩
  · have : 0 ≤ p / c := Int.ediv_nonneg h (by omega)
    exact ⟨this, by rw [e]; omega, by omega, by rw [e]; omega, by omega⟩
theorem pow_le62 {j : Nat} (h : j ≤ 62) : (2 : Int) ^ j ≤ 4611686018427387904 := by
  have a : 2 ^ j ≤ 2 ^ 62 := Nat.pow_le_pow_right (by omega) h
  have b : ((2 ^ j : Nat) : Int) = (2 : Int) ^ j := by simp
  have c : (2 : Nat) ^ 62 = 4611686018427387904 := by decide
  omega
theorem near_end {x Q : Int} (h : Near x Q 0) : x = Q := by
  obtain ⟨a, b, _⟩ := h
  rw [Int.pow_zero] at b
  omega
theorem near_step {x Q : Int} {j : Nat} (h : Near x Q (j + 1)) : 1 ≤ (2 : Int) ^ j ∧ x + 2 ^ j ≤ 9223372036854775807 ∧ -9223372036854775808 ≤ x ∧ (if x + 2 ^ j ≤ Q then Near (x + 2 ^ j) Q j else Near x Q j) ∧ j ≤ 62 := by
  obtain ⟨a, b, c, d, e⟩ := h
  have p : 1 ≤ (2 : Int) ^ j := Int.pow_pos (by omega)
  rw [Int.pow_succ] at b d
  refine ⟨p, by omega, c, ?_, by omega⟩
  split
  · exact ⟨by omega, by omega, by omega, by omega, by omega⟩
  · exact ⟨by omega, by omega, by omega, by omega, by omega⟩

theorem less0_any (p : Int) (w : World) :
    Calls Try.prog 54 #[.agg #[.int .i64 (hi p), .int .u64 (lo p)], .agg #[.int .i64 0, .int .u64 0]] w fun e w' =>
      e = .returned (.bool (decide (p < 0))) ∧ Below w.heap.size w w' := by
  have h := less_any p 0 w
  rw [hl_zero.1, hl_zero.2] at h
  exact h

set_option maxRecDepth 100000 in
set_option maxHeartbeats 4000000 in
theorem rmd_core (a b c p : Int) (ha : I64 a) (hb : I64 b) (hc : 1 ≤ c) (hc' : c ≤ 9223372036854775807) (hp : Hid (a * b = p)) (w : World)
    (r1 : -9223372036854775808 * c ≤ p) (r2 : p < 9223372036854775807 * c + c) :
    Calls Try.prog 25 #[.int .i64 a, .int .i64 b, .int .i64 c] w fun e w' => e = .returned (.tuple #[.int .i64 (p / c), .int .i64 0]) ∧ Below w.heap.size w w' := by
  have TP := fun w => times_any a b ha hb w
  rw [hp.out] at TP
  have TP := hid TP
  rename_i TP0
  clear TP0 hp
  have hcI : I64 c := ⟨by omega, hc'⟩
  have I1 : I128 (9223372036854775807 * c + c) := by unfold I128 hi; omega
  have t1 : decide (p < -9223372036854775808 * c) = false := by simp; omega
  have t2 : decide (p < 9223372036854775807 * c + c) = true := by simp; omega
  go_enter Try.func25, Try.ntmps25
  go_wp2_with fail
  refine (TP.out _).mono ?_
  rintro e w1 ⟨rfl, h1⟩
  have c0 : (w1.alloc (Obj.cells #[Value.int IntKind.i64 (hi p), Value.int IntKind.u64 (lo p)] 60)).cell? ⟨w1.heap.size, 0, none⟩ = some (.int .i64 (hi p)) := by simp [go_sem]
  have c1 : (w1.alloc (Obj.cells #[Value.int IntKind.i64 (hi p), Value.int IntKind.u64 (lo p)] 60)).cell? ⟨w1.heap.size, 1, none⟩ = some (.int .u64 (lo p)) := by simp [go_sem]
  have hB : Below w.heap.size w (w1.alloc (Obj.cells #[Value.int IntKind.i64 (hi p), Value.int IntKind.u64 (lo p)] 60)) := h1.alloc h1.size _
  have C0 := hid c0
  have C1 := hid c1
  have HB := hid hB
  clear c0 c1 hB
  go_upto_region 4 with fail
  generalize hW : w1.alloc (Obj.cells #[Value.int IntKind.i64 (hi p), Value.int IntKind.u64 (lo p)] 60) = W at *
  generalize w1.heap.size = B at *
  clear hW h1
  have c0 := C0.out
  have c1 := C1.out
  have D0 : Hid (W.drew.cell? ⟨B, 0, none⟩ = some (.int .i64 (hi p))) := c0
  have D1 : Hid (W.drew.cell? ⟨B, 1, none⟩ = some (.int .u64 (lo p))) := c1
  have hB : Below w.heap.size w W.drew := HB.out.drew
  go_cut [30] (fun v wx => v = .bool false ∧ wx.cell? ⟨B, 0, none⟩ = some (.int .i64 (hi p)) ∧ wx.cell? ⟨B, 1, none⟩ = some (.int .u64 (lo p)) ∧ Below w.heap.size w wx)
  case first =>
    go_region_with (first
      | (go_at_call 49; first
          | ((with_reducible refine (times_any (-9223372036854775808) c I64_min hcI _).mono ?_); rintro e w' ⟨rfl, hq⟩; have c0 := keepc hq D0.out; have c1 := keepc hq D1.out; have hB := hB.trans (hq.mono hB.size))
          | ((with_reducible refine (times_any 9223372036854775807 c I64_max hcI _).mono ?_); rintro e w' ⟨rfl, hq⟩; have c0 := keepc hq c0; have c1 := keepc hq c1; have hB := hB.trans (hq.mono hB.size)))
      | (go_at_call 47; refine (of_any c hcI _).mono ?_; rintro e w' ⟨rfl, hq⟩; have c0 := keepc hq c0; have c1 := keepc hq c1; have hB := hB.trans (hq.mono hB.size))
      | (go_at_call 46; refine (plus_any (9223372036854775807 * c) c I1 _).mono ?_; rintro e w' ⟨rfl, hq⟩; have c0 := keepc hq c0; have c1 := keepc hq c1; have hB := hB.trans (hq.mono hB.size))
      | (go_at_call 54; first
          | ((with_reducible refine (less_any p (-9223372036854775808 * c) _).mono ?_); rintro e w' ⟨rfl, hq⟩; have c0 := keepc hq c0; have c1 := keepc hq c1; have hB := hB.trans (hq.mono hB.size))
          | ((with_reducible refine (less_any p (9223372036854775807 * c + c) _).mono ?_); rintro e w' ⟨rfl, hq⟩; have c0 := keepc hq c0; have c1 := keepc hq c1; have hB := hB.trans (hq.mono hB.size))))
    all_goals
      go_wp2_with fail
      go_meet
      exact ⟨rfl, c0, c1, hB⟩
  case rest =>
    clear c0 c1 hB C0 C1 HB D0 D1 t1 t2
    obtain ⟨rfl, c0, c1, hB⟩ := hcut
    go_wp2_with fail
    refine (less0_any p _).mono ?_
    rintro e w2 ⟨rfl, h2⟩
    have k0 := keepc h2 c0
    have k1 := keepc h2 c1
    have kB := hB.trans (h2.mono hB.size)
    clear c0 c1 hB h2
    obtain ⟨x0, hx⟩ : ∃ x0 : Int, (p < 0 ∧ x0 = -9223372036854775808) ∨ (0 ≤ p ∧ x0 = 0) := by
      by_cases hn : p < 0
      · exact ⟨_, .inl ⟨hn, rfl⟩⟩
      · exact ⟨_, .inr ⟨by omega, rfl⟩⟩
    have N0 := near_start hc r1 r2 hx
    have HX := hid hx
    clear hx r1 r2
    rcases HX.out with ⟨hn, hx0⟩ | ⟨hn, hx0⟩
    all_goals
      subst hx0
      clear HX
    · have tn : decide (p < 0) = true := by simp; omega
      go_wp2_with fail
      go_loopw [9, 10] (fun q i wr => ∃ (x : Int) (k : Nat), Near x (p / c) k ∧ q = .int .i64 x ∧ i = .int .i64 ((k : Int) - 1) ∧ wr.cell? ⟨B, 0, none⟩ = some (.int .i64 (hi p)) ∧ wr.cell? ⟨B, 1, none⟩ = some (.int .u64 (lo p)) ∧ Below w.heap.size w wr) (fun _ i _ => (intOf i + 1).toNat)
      case atStart => exact ⟨_, 63, N0, rfl, rfl, k0, k1, kB⟩
      case round =>
        clear k0 k1 kB N0
        obtain ⟨x, k, hN, rfl, rfl, c0, c1, hB⟩ := hrel
        by_cases hk : k = 0
        · subst hk
          have X := hid (near_end hN)
          go_wp2_with fail
          go_ret2
          exact ⟨ret2 X.out rfl, hB⟩
        · obtain ⟨j, rfl⟩ : ∃ j, k = j + 1 := ⟨k - 1, by omega⟩
          obtain ⟨m1, m2, m3, m4, m5⟩ := near_step hN
          rw [show (((j + 1 : Nat) : Int) - 1) = (j : Int) by omega]
          have hjb : j ≤ 62 := m5
          obtain ⟨P, hP⟩ : ∃ P : Int, (2 : Int) ^ j = P := ⟨_, rfl⟩
          have pw : wrap64 ((2 : Int) ^ j) = P := by rw [hP] at m1 m2 ⊢; have m6 := pow_le62 hjb; rw [hP] at m6; exact w64_in (by omega) (by omega)
          have M4 := hid m4
          rw [hP] at m1 m2
          have HP := hid hP
          clear hP m4 hN m5
          have hd : (x + P ≤ p / c) ↔ ((x + P) * c ≤ p) := Int.le_ediv_iff_mul_le (by omega)
          have HD := hid hd
          clear hd
          have hI : I64 (x + P) := ⟨by omega, m2⟩
          have D0 : Hid (wr.drew.cell? ⟨B, 0, none⟩ = some (.int .i64 (hi p))) := c0
          have D1 : Hid (wr.drew.cell? ⟨B, 1, none⟩ = some (.int .u64 (lo p))) := c1
          by_cases hq : (x + P) * c ≤ p
          · have tq : decide (p < (x + P) * c) = false := by simp; omega
            have N := M4.out
            rw [HP.out, if_pos (HD.out.2 hq)] at N
            have N := hid N
            go_wp2_with fail
            go_region_with (first
              | (go_at_call 49; refine (times_any (x + P) c hI hcI _).mono ?_; rintro e w' ⟨rfl, hq'⟩; have c0 := keepc hq' D0.out; have c1 := keepc hq' D1.out; have hB := hB.drew.trans (hq'.mono hB.size))
              | (go_at_call 54; refine (less_any p ((x + P) * c) _).mono ?_; rintro e w' ⟨rfl, hq'⟩; have c0 := keepc hq' c0; have c1 := keepc hq' c1; have hB := hB.trans (hq'.mono hB.size)))
            all_goals
              go_wp2_with fail
              go_roundw
              case rel => exact ⟨x + P, j, N.out, rfl, rfl, c0, c1, hB⟩
              case measure => simp [intOf]
          · have tq : decide (p < (x + P) * c) = true := by simp; omega
            have N := M4.out
            rw [HP.out, if_neg (fun h => hq (HD.out.1 h))] at N
            have N := hid N
            go_wp2_with fail
            go_region_with (first
              | (go_at_call 49; refine (times_any (x + P) c hI hcI _).mono ?_; rintro e w' ⟨rfl, hq'⟩; have c0 := keepc hq' D0.out; have c1 := keepc hq' D1.out; have hB := hB.drew.trans (hq'.mono hB.size))
              | (go_at_call 54; refine (less_any p ((x + P) * c) _).mono ?_; rintro e w' ⟨rfl, hq'⟩; have c0 := keepc hq' c0; have c1 := keepc hq' c1; have hB := hB.trans (hq'.mono hB.size)))
            all_goals
              go_wp2_with fail
              go_roundw
              case rel => exact ⟨x, j, N.out, rfl, rfl, c0, c1, hB⟩
              case measure => simp [intOf]
    · have tn : decide (p < 0) = false := by simp; omega
      go_wp2_with fail
      go_loopw [9, 10] (fun q i wr => ∃ (x : Int) (k : Nat), Near x (p / c) k ∧ q = .int .i64 x ∧ i = .int .i64 ((k : Int) - 1) ∧ wr.cell? ⟨B, 0, none⟩ = some (.int .i64 (hi p)) ∧ wr.cell? ⟨B, 1, none⟩ = some (.int .u64 (lo p)) ∧ Below w.heap.size w wr) (fun _ i _ => (intOf i + 1).toNat)
      case atStart => exact ⟨_, 63, N0, rfl, rfl, k0, k1, kB⟩
      case round =>
        clear k0 k1 kB N0
        obtain ⟨x, k, hN, rfl, rfl, c0, c1, hB⟩ := hrel
        by_cases hk : k = 0
        · subst hk
          have X := hid (near_end hN)
          go_wp2_with fail
          go_ret2
          exact ⟨ret2 X.out rfl, hB⟩
        · obtain ⟨j, rfl⟩ : ∃ j, k = j + 1 := ⟨k - 1, by omega⟩
          obtain ⟨m1, m2, m3, m4, m5⟩ := near_step hN
          rw [show (((j + 1 : Nat) : Int) - 1) = (j : Int) by omega]
          have hjb : j ≤ 62 := m5
          obtain ⟨P, hP⟩ : ∃ P : Int, (2 : Int) ^ j = P := ⟨_, rfl⟩
          have pw : wrap64 ((2 : Int) ^ j) = P := by rw [hP] at m1 m2 ⊢; have m6 := pow_le62 hjb; rw [hP] at m6; exact w64_in (by omega) (by omega)
          have M4 := hid m4
          rw [hP] at m1 m2
          have HP := hid hP
          clear hP m4 hN m5
          have hd : (x + P ≤ p / c) ↔ ((x + P) * c ≤ p) := Int.le_ediv_iff_mul_le (by omega)
          have HD := hid hd
          clear hd
          have hI : I64 (x + P) := ⟨by omega, m2⟩
          have D0 : Hid (wr.drew.cell? ⟨B, 0, none⟩ = some (.int .i64 (hi p))) := c0
          have D1 : Hid (wr.drew.cell? ⟨B, 1, none⟩ = some (.int .u64 (lo p))) := c1
          by_cases hq : (x + P) * c ≤ p
          · have tq : decide (p < (x + P) * c) = false := by simp; omega
            have N := M4.out
            rw [HP.out, if_pos (HD.out.2 hq)] at N
            have N := hid N
            go_wp2_with fail
            go_region_with (first
              | (go_at_call 49; refine (times_any (x + P) c hI hcI _).mono ?_; rintro e w' ⟨rfl, hq'⟩; have c0 := keepc hq' D0.out; have c1 := keepc hq' D1.out; have hB := hB.drew.trans (hq'.mono hB.size))
              | (go_at_call 54; refine (less_any p ((x + P) * c) _).mono ?_; rintro e w' ⟨rfl, hq'⟩; have c0 := keepc hq' c0; have c1 := keepc hq' c1; have hB := hB.trans (hq'.mono hB.size)))
            all_goals
              go_wp2_with fail
              go_roundw
              case rel => exact ⟨x + P, j, N.out, rfl, rfl, c0, c1, hB⟩
              case measure => simp [intOf]
          · have tq : decide (p < (x + P) * c) = true := by simp; omega
            have N := M4.out
            rw [HP.out, if_neg (fun h => hq (HD.out.1 h))] at N
            have N := hid N
            go_wp2_with fail
            go_region_with (first
              | (go_at_call 49; refine (times_any (x + P) c hI hcI _).mono ?_; rintro e w' ⟨rfl, hq'⟩; have c0 := keepc hq' D0.out; have c1 := keepc hq' D1.out; have hB := hB.drew.trans (hq'.mono hB.size))
              | (go_at_call 54; refine (less_any p ((x + P) * c) _).mono ?_; rintro e w' ⟨rfl, hq'⟩; have c0 := keepc hq' c0; have c1 := keepc hq' c1; have hB := hB.trans (hq'.mono hB.size)))
            all_goals
              go_wp2_with fail
              go_roundw
              case rel => exact ⟨x, j, N.out, rfl, rfl, c0, c1, hB⟩
              case measure => simp [intOf]


theorem rmuldiv_any (a b c : Int) (ha : I64 a) (hb : I64 b) (hc : I64 c) (w : World) :
    Calls Try.prog 25 #[.int .i64 a, .int .i64 b, .int .i64 c] w fun e w' => e = .returned (.tuple #[.int .i64 (mdv a b c), .int .i64 (mde a b c)]) ∧ Below w.heap.size w w' := by
  by_cases h1 : c < 1
  · rw [show mdv a b c = 0 by unfold mdv; rw [if_pos h1], show mde a b c = 1 by unfold mde; rw [if_pos h1]]
    exact rmd_small a b c h1 w
  · rw [show mdv a b c = nv (a * b / c) by unfold mdv; rw [if_neg h1], show mde a b c = ne (a * b / c) by unfold mde; rw [if_neg h1]]
    by_cases h2 : a * b < -9223372036854775808 * c
    · have : a * b / c < -9223372036854775808 := (Int.ediv_lt_iff_lt_mul (by omega)).2 h2
      rw [nv_lo this, ne_lo this]
      exact rmd_low a b c _ ha hb (by omega) hc.2 rfl w h2
    · by_cases h3 : a * b < 9223372036854775807 * c + c
      · have l1 : -9223372036854775808 ≤ a * b / c := (Int.le_ediv_iff_mul_le (by omega)).2 (by omega)
        have l2 : a * b / c < 9223372036854775808 := (Int.ediv_lt_iff_lt_mul (by omega)).2 (by omega)
        rw [nv_in l1 (by omega), ne_in l1 (by omega)]
        exact rmd_core a b c _ ha hb (by omega) hc.2 rfl w (by omega) h3
      · have : 9223372036854775808 ≤ a * b / c := (Int.le_ediv_iff_mul_le (by omega)).2 (by omega)
        rw [nv_hi (by omega), ne_hi (by omega)]
        exact rmd_high a b c _ ha hb (by omega) hc.2 rfl w (by omega) (by omega)

end Go.Proofs.Ytmajoognpggcpaa
