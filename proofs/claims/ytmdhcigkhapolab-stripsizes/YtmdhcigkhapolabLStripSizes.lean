/- StripSizes: for all numbers and bytes the law's call returns true: greater numbers never take fewer bytes, nor more than one byte more than the number itself has; all of one byte are read from that byte alone. No further conditions. -/
import Derived.Test.YtmdhcigkhapolabSR
import Derived.Test.YtmdhcigkhapolabOpenS
namespace Go.Proofs.Ytmdhcigkhapolab.stripSizes
open Go.ChangeShapes Go.WideShapes Go.ChangeAt Go.RowKit
set_option linter.unusedVariables false

theorem need_ok (x : Int) (k : Nat) (hk : k < 8) (x0 : 0 ≤ x) (x1 : x ≤ 18446744073709551615) (h1 : x / 256 ^ k ≤ 255) (h2 : k = 0 ∨ 255 < x / 256 ^ (k - 1)) : shelf x ≤ k + 1 ∧ k ≤ shelf x := by
  refine below8 (P := fun k => x / 256 ^ k ≤ 255 → (k = 0 ∨ 255 < x / 256 ^ (k - 1)) → shelf x ≤ k + 1 ∧ k ≤ shelf x) ?_ ?_ ?_ ?_ ?_ ?_ ?_ ?_ k hk h1 h2
  · intro a b
    simp at a b
    constructor
    · refine Nat.le_of_not_lt fun hl => ?_
      have m := beg_mono (0 + 2) (shelf x - (0 + 2)) (by have := shelf_le x; omega)
      rw [show 0 + 2 + (shelf x - (0 + 2)) = shelf x by omega] at m
      have := beg_shelf x x0
      rw [show beg (0 + 2) = 448 from rfl] at m
      omega
    · omega
  · intro a b
    simp at a b
    constructor
    · refine Nat.le_of_not_lt fun hl => ?_
      have m := beg_mono (1 + 2) (shelf x - (1 + 2)) (by have := shelf_le x; omega)
      rw [show 1 + 2 + (shelf x - (1 + 2)) = shelf x by omega] at m
      have := beg_shelf x x0
      rw [show beg (1 + 2) = 65984 from rfl] at m
      omega
    · refine Nat.le_of_not_lt fun hl => ?_
      have g := shelf_lt x (by omega)
      have m := beg_mono (shelf x + 1) (1 - (shelf x + 1)) (by omega)
      rw [show shelf x + 1 + (1 - (shelf x + 1)) = 1 by omega] at m
      rw [show beg 1 = 192 from rfl] at m
      omega
  · intro a b
    simp at a b
    constructor
    · refine Nat.le_of_not_lt fun hl => ?_
      have m := beg_mono (2 + 2) (shelf x - (2 + 2)) (by have := shelf_le x; omega)
      rw [show 2 + 2 + (shelf x - (2 + 2)) = shelf x by omega] at m
      have := beg_shelf x x0
      rw [show beg (2 + 2) = 16843200 from rfl] at m
      omega
    · refine Nat.le_of_not_lt fun hl => ?_
      have g := shelf_lt x (by omega)
      have m := beg_mono (shelf x + 1) (2 - (shelf x + 1)) (by omega)
      rw [show shelf x + 1 + (2 - (shelf x + 1)) = 2 by omega] at m
      rw [show beg 2 = 448 from rfl] at m
      omega
  · intro a b
    simp at a b
    constructor
    · refine Nat.le_of_not_lt fun hl => ?_
      have m := beg_mono (3 + 2) (shelf x - (3 + 2)) (by have := shelf_le x; omega)
      rw [show 3 + 2 + (shelf x - (3 + 2)) = shelf x by omega] at m
      have := beg_shelf x x0
      rw [show beg (3 + 2) = 4311810496 from rfl] at m
      omega
    · refine Nat.le_of_not_lt fun hl => ?_
      have g := shelf_lt x (by omega)
      have m := beg_mono (shelf x + 1) (3 - (shelf x + 1)) (by omega)
      rw [show shelf x + 1 + (3 - (shelf x + 1)) = 3 by omega] at m
      rw [show beg 3 = 65984 from rfl] at m
      omega
  · intro a b
    simp at a b
    constructor
    · refine Nat.le_of_not_lt fun hl => ?_
      have m := beg_mono (4 + 2) (shelf x - (4 + 2)) (by have := shelf_le x; omega)
      rw [show 4 + 2 + (shelf x - (4 + 2)) = shelf x by omega] at m
      have := beg_shelf x x0
      rw [show beg (4 + 2) = 1103823438272 from rfl] at m
      omega
    · refine Nat.le_of_not_lt fun hl => ?_
      have g := shelf_lt x (by omega)
      have m := beg_mono (shelf x + 1) (4 - (shelf x + 1)) (by omega)
      rw [show shelf x + 1 + (4 - (shelf x + 1)) = 4 by omega] at m
      rw [show beg 4 = 16843200 from rfl] at m
      omega
  · intro a b
    simp at a b
    constructor
    · refine Nat.le_of_not_lt fun hl => ?_
      have m := beg_mono (5 + 2) (shelf x - (5 + 2)) (by have := shelf_le x; omega)
      rw [show 5 + 2 + (shelf x - (5 + 2)) = shelf x by omega] at m
      have := beg_shelf x x0
      rw [show beg (5 + 2) = 282578800148928 from rfl] at m
      omega
    · refine Nat.le_of_not_lt fun hl => ?_
      have g := shelf_lt x (by omega)
      have m := beg_mono (shelf x + 1) (5 - (shelf x + 1)) (by omega)
      rw [show shelf x + 1 + (5 - (shelf x + 1)) = 5 by omega] at m
      rw [show beg 5 = 4311810496 from rfl] at m
      omega
  · intro a b
    simp at a b
    constructor
    · refine Nat.le_of_not_lt fun hl => ?_
      have m := beg_mono (6 + 2) (shelf x - (6 + 2)) (by have := shelf_le x; omega)
      rw [show 6 + 2 + (shelf x - (6 + 2)) = shelf x by omega] at m
      have := beg_shelf x x0
      rw [show beg (6 + 2) = 72340172838076864 from rfl] at m
      omega
    · refine Nat.le_of_not_lt fun hl => ?_
      have g := shelf_lt x (by omega)
      have m := beg_mono (shelf x + 1) (6 - (shelf x + 1)) (by omega)
      rw [show shelf x + 1 + (6 - (shelf x + 1)) = 6 by omega] at m
      rw [show beg 6 = 1103823438272 from rfl] at m
      omega
  · intro a b
    simp at a b
    constructor
    · have := shelf_le x; omega
    · refine Nat.le_of_not_lt fun hl => ?_
      have g := shelf_lt x (by omega)
      have m := beg_mono (shelf x + 1) (7 - (shelf x + 1)) (by omega)
      rw [show shelf x + 1 + (7 - (shelf x + 1)) = 7 by omega] at m
      rw [show beg 7 = 282578800148928 from rfl] at m
      omega
theorem div_step (x : Int) (k : Nat) : x / 256 ^ k / 256 = x / 256 ^ (k + 1) := by rw [Int.pow_succ, Int.ediv_ediv_of_nonneg (by have := pow_pos k; omega)]
theorem div_lt8 (x : Int) (x1 : x ≤ 18446744073709551615) (k : Nat) (hk : k < 8) (h : 255 < x / 256 ^ k) : k + 1 < 8 := by
  by_cases e : k = 7
  · subst e
    have : (256 : Int) ^ 7 = 72057594037927936 := by decide
    rw [this] at h
    omega
  · omega
def rd1 (c : Int) : Int × Int × Int := if c < 192 then (c, 1, 0) else if 199 < c then (0, 0, 4) else (0, 1, 5)
theorem rd_one (c : Int) (c0 : 0 ≤ c) (c1 : c ≤ 255) : rd [c] 0 = rd1 c := by
  unfold rd rd1
  simp
  by_cases h1 : c < 192
  · rw [if_pos h1, if_pos h1]
  · rw [if_neg h1, if_neg h1]
    by_cases h2 : 199 < c
    · rw [if_pos (by omega), if_pos h2]
    · rw [if_neg (by omega), if_neg h2, if_pos (by omega)]

set_option maxRecDepth 100000 in
set_option maxHeartbeats 8000000 in
theorem walk (x y c : Int) (w : World) (hx : U64 x) (hy : U64 y) (hc : U8 c) :
    Calls Try.prog 9 #[.int .u64 x, .int .u64 y, .int .u8 c] w fun e w' => e = .returned (.bool true) ∧ Below w.heap.size w w' := by
  obtain ⟨x0, x1⟩ := hx
  obtain ⟨y0, y1⟩ := hy
  obtain ⟨c0, c1⟩ := hc
  have HR : Hid (∀ (w : World) (k : Nat), k = w.heap.size → Calls Try.prog 21 #[.slice (some ⟨k, 0, none⟩) 1 1, .int .i64 0] (w.alloc (.cells #[.int .u8 c] 5)) fun e w' => e = .returned (.tuple #[.int .u64 (rd1 c).1, .int .i64 (rd1 c).2.1, .int .i64 (rd1 c).2.2]) ∧ w.alloc (.cells #[.int .u8 c] 5) = w') := fun w k hk => by
    have K := read_any (some ⟨k, 0, none⟩) 1 1 [c] 0 _ (holds_arr [c] #[.int .u8 c] 1 rfl rfl (BB.one c0 c1) (by omega) w k hk) ⟨by omega, by omega⟩
    rw [rd_one c c0 c1] at K
    exact K
  have SX := hid (fun w => size_any' x x0 x1 w)
  have SY := hid (fun w => size_any' y y0 y1 w)
  have NK := hid (fun k hk => need_ok x k hk x0 x1)
  have MO : Hid (x ≤ y → shelf x ≤ shelf y) := fun h => shelf_mono x0 h
  have s8 := shelf_le x
  have s9 := shelf_le y
  go_enter Try.func9, Try.ntmps9
  go_wp2_with fail
  with_reducible refine (awake3_any _).mono ?_
  rintro e w1 ⟨rfl, q1⟩
  go_wp2_with fail
  go_loop [7, 8] (fun n z => ∃ k : Nat, k < 8 ∧ n = .int .i64 (1 + (k : Int)) ∧ z = .int .u64 (x / 256 ^ k) ∧ Hid (k = 0 ∨ 255 < x / 256 ^ (k - 1))) (fun _ z => (intOf z).toNat)
  case atStart => exact ⟨0, by omega, rfl, by simp, .inl rfl⟩
  case round =>
    obtain ⟨k, hk, rfl, rfl, hh⟩ := hrel
    have z0 : 0 ≤ x / 256 ^ k := Int.ediv_nonneg x0 (by have := pow_pos k; omega)
    have z1 : x / 256 ^ k ≤ 18446744073709551615 := Int.le_trans (Int.ediv_le_self _ x0) x1
    by_cases hz : 255 < x / 256 ^ k
    · have D := hid (div_step x k)
      have L8 := div_lt8 x x1 k hk hz
      have HH : Hid (k + 1 = 0 ∨ 255 < x / 256 ^ (k + 1 - 1)) := .inr (by simpa using hz)
      generalize x / 256 ^ k = z at *
      have t1 : decide (255 < z) = true := by simp; omega
      go_wp2
      go_round
      case rel => exact ⟨k + 1, by omega, by go_num, by rw [D.out], HH.out⟩
      case measure => simp [intOf]; omega
    · have N := NK.out k hk (by omega) hh.out
      have t1 : decide (255 < x / 256 ^ k) = false := by simp; omega
      generalize x / 256 ^ k = z at *
      clear NK hh
      obtain ⟨n1, n2⟩ := N
      obtain ⟨sx, hsx⟩ : ∃ s, s = shelf x := ⟨_, rfl⟩
      obtain ⟨sy, hsy⟩ : ∃ s, s = shelf y := ⟨_, rfl⟩
      rw [← hsx] at SX n1 n2 s8 MO
      rw [← hsy] at SY s9 MO
      clear hsx hsy
      have t2 : decide ((1 : Int) + k + 1 < 1 + sx) = false := by simp; omega
      have t3 : decide ((1 : Int) + sx < 1 + k) = false := by simp; omega
      have t2' : decide ((k : Int) + 1 < sx) = false := by simp; omega
      have t3' : decide ((sx : Int) < k) = false := by simp; omega
      by_cases hxy : x ≤ y
      · have t4 : decide (x ≤ y) = true := by simp; omega
        have m := MO.out hxy
        have t5 : decide ((1 : Int) + sy < 1 + sx) = false := by simp; omega
        have t5' : decide ((sy : Int) < sx) = false := by simp; omega
        have t5'' : decide (sy < sx) = false := by simp; omega
        by_cases g1 : c < 192
        · have u1 : decide (c < 192) = true := by simp; omega
          have R1 : rd1 c = (c, 1, 0) := by unfold rd1; rw [if_pos g1]
          rw [R1] at HR
          clear R1
          go_wp2_with fail
          with_reducible refine (SX.out _).mono ?_
          rintro e w2 ⟨rfl, rfl⟩
          go_wp2_with fail
          with_reducible refine (SY.out _).mono ?_
          rintro e w2 ⟨rfl, rfl⟩
          go_wp2_with fail
          with_reducible refine (HR.out _ _ (by simp)).mono ?_
          rintro e w2 ⟨rfl, rfl⟩
          go_wp2
          go_ret
          exact ⟨rfl, q1.alloc q1.size _⟩
        · have u1 : decide (c < 192) = false := by simp; omega
          by_cases g2 : 199 < c
          · have u2 : decide (199 < c) = true := by simp; omega
            have R1 : rd1 c = (0, 0, 4) := by unfold rd1; rw [if_neg g1, if_pos g2]
            rw [R1] at HR
            clear R1
            go_wp2_with fail
            with_reducible refine (SX.out _).mono ?_
            rintro e w2 ⟨rfl, rfl⟩
            go_wp2_with fail
            with_reducible refine (SY.out _).mono ?_
            rintro e w2 ⟨rfl, rfl⟩
            go_wp2_with fail
            with_reducible refine (HR.out _ _ (by simp)).mono ?_
            rintro e w2 ⟨rfl, rfl⟩
            go_wp2
            go_ret
            exact ⟨rfl, q1.alloc q1.size _⟩
          · have u2 : decide (199 < c) = false := by simp; omega
            have R1 : rd1 c = (0, 1, 5) := by unfold rd1; rw [if_neg g1, if_neg g2]
            rw [R1] at HR
            clear R1
            go_wp2_with fail
            with_reducible refine (SX.out _).mono ?_
            rintro e w2 ⟨rfl, rfl⟩
            go_wp2_with fail
            with_reducible refine (SY.out _).mono ?_
            rintro e w2 ⟨rfl, rfl⟩
            go_wp2_with fail
            with_reducible refine (HR.out _ _ (by simp)).mono ?_
            rintro e w2 ⟨rfl, rfl⟩
            go_wp2
            go_ret
            exact ⟨rfl, q1.alloc q1.size _⟩
      · have t4 : decide (x ≤ y) = false := by simp; omega
        by_cases g1 : c < 192
        · have u1 : decide (c < 192) = true := by simp; omega
          have R1 : rd1 c = (c, 1, 0) := by unfold rd1; rw [if_pos g1]
          rw [R1] at HR
          clear R1
          go_wp2_with fail
          with_reducible refine (SX.out _).mono ?_
          rintro e w2 ⟨rfl, rfl⟩
          go_wp2_with fail
          with_reducible refine (HR.out _ _ (by simp)).mono ?_
          rintro e w2 ⟨rfl, rfl⟩
          go_wp2
          go_ret
          exact ⟨rfl, q1.alloc q1.size _⟩
        · have u1 : decide (c < 192) = false := by simp; omega
          by_cases g2 : 199 < c
          · have u2 : decide (199 < c) = true := by simp; omega
            have R1 : rd1 c = (0, 0, 4) := by unfold rd1; rw [if_neg g1, if_pos g2]
            rw [R1] at HR
            clear R1
            go_wp2_with fail
            with_reducible refine (SX.out _).mono ?_
            rintro e w2 ⟨rfl, rfl⟩
            go_wp2_with fail
            with_reducible refine (HR.out _ _ (by simp)).mono ?_
            rintro e w2 ⟨rfl, rfl⟩
            go_wp2
            go_ret
            exact ⟨rfl, q1.alloc q1.size _⟩
          · have u2 : decide (199 < c) = false := by simp; omega
            have R1 : rd1 c = (0, 1, 5) := by unfold rd1; rw [if_neg g1, if_neg g2]
            rw [R1] at HR
            clear R1
            go_wp2_with fail
            with_reducible refine (SX.out _).mono ?_
            rintro e w2 ⟨rfl, rfl⟩
            go_wp2_with fail
            with_reducible refine (HR.out _ _ (by simp)).mono ?_
            rintro e w2 ⟨rfl, rfl⟩
            go_wp2
            go_ret
            exact ⟨rfl, q1.alloc q1.size _⟩

theorem own : ownKnob Try.prog.godebug = none := by kernel_rfl
theorem laidOut : laidOutB Try.prog = true := by kernel_rfl

set_option maxRecDepth 100000 in
theorem lifted (os : Os) (started : os.Started) (H : Type) (enc : TypeId × Value → H) :
    ReturnsInHanded {} Try.checked os 9 .any (Rows.stripSizesSpec.pre6 enc Try.prog Try.f9 Rows.stripSizesRow.domain false) (Rows.stripSizesSpec.post enc Try.prog Try.f9 false true false false) := by
  refine returnsInHanded_of_change (C := Try.checked) own started (by kernel_rfl) Try.func9
    (ChangeSpec.witness6 (enc := enc) (C := Try.checked) false ⟨#[], #[.int .u64 0, .int .u64 0, .int .u8 0], []⟩ 8 (by kernel_rfl) (by kernel_rfl) (by kernel_rfl) (by kernel_rfl)) ?_
  intro W base args ds gs before hval0 hW hcnd _
  have hval : ∀ (j : Nat) t v, Try.f9.params[j]? = some t → args[j]? = some v → Value.okWide Try.prog W .any base t v := hval0
  have hW' := hW
  obtain ⟨p, q, hA0, hV, rfl, hfz, hnd⟩ := hW
  have hA : DataW.TrodAll enc Try.prog W 0 (fun _ => true) true Try.f9.params.toList args.toList ds p := hA0
  rw [Try.params9] at hA hval
  obtain ⟨v0, vs0, d0, ds0, p0, q0, hargs, rfl, rfl, h0, r0⟩ := trodAll_cons hA
  obtain ⟨v1, vs1, d1, ds1, p1, q1, rfl, rfl, rfl, h1, r1⟩ := trodAll_cons r0
  obtain ⟨v2, vs2, d2, ds2, p2, q2, rfl, rfl, rfl, h2, r2⟩ := trodAll_cons r1
  obtain ⟨rfl, rfl, rfl⟩ := trodAll_nil r2
  obtain rfl : args = #[v0, v1, v2] := by cases args; simp_all
  obtain ⟨rfl, rfl⟩ := trodVars_none hV
  have lt0 : ∀ x ∈ p0, x.block < W.heap.size := by obtain ⟨m, hm⟩ := h0; exact DataW.trod_lt m _ _ _ hm
  have lt1 : ∀ x ∈ p1, x.block < W.heap.size := by obtain ⟨m, hm⟩ := h1; exact DataW.trod_lt m _ _ _ hm
  have lt2 : ∀ x ∈ p2, x.block < W.heap.size := by obtain ⟨m, hm⟩ := h2; exact DataW.trod_lt m _ _ _ hm
  obtain ⟨a0, rfl, w0⟩ := val_u64 Try.underlying23 (hval 0 23 v0 rfl rfl) h0
  obtain ⟨a1, rfl, w1⟩ := val_u64 Try.underlying23 (hval 1 23 v1 rfl rfl) h1
  obtain ⟨a2, rfl, w2⟩ := val_u8 Try.underlying5 (hval 2 5 v2 rfl rfl) h2
  clear hA0 hval0
  refine (walk a0 a1 a2 W w0 w1 w2).mono fun e W' ⟨he, bel⟩ => ?_
  subst he
  exact ⟨_, rfl, _, _, _, [], _, [], hW', trodAll_mk1 (shut_bool Try.underlying4 _), (trodAll_cons_mk (Below.trod laidOut (by kernel_rfl) (of_decide_eq_true (by kernel_rfl)) h0 bel lt0) (trodAll_cons_mk (Below.trod laidOut (by kernel_rfl) (of_decide_eq_true (by kernel_rfl)) h1 bel lt1) (trodAll_cons_mk (Below.trod laidOut (by kernel_rfl) (of_decide_eq_true (by kernel_rfl)) h2 bel lt2) trodAll_mk0))), rfl, bel.frame _, fun h => by cases h⟩

theorem over : Rows.stripSizesRow.holds Try.pinned (OpenSpec.ofChange Rows.stripSizesSpec) :=
  OpenClaim.holds_of_wide 9 Try.f9 rfl rfl rfl rfl rfl rfl rfl ⟨rfl, rfl, rfl, rfl, rfl⟩ rfl rfl rfl rfl rfl (by kernel_rfl) Try.func9 (by kernel_rfl)
    (of_decide_eq_true (by kernel_rfl)) (by unfold Func.isWrapper; first | (rw [if_pos (by decide +kernel)]; kernel_rfl) | (rw [if_neg (by decide +kernel)]; exact ⟨rfl, rfl⟩))
    (fun os started H enc _ => lifted os started H enc)

theorem proved : Rows.StripSizesSaid := over
#print axioms proved
end Go.Proofs.Ytmdhcigkhapolab.stripSizes
