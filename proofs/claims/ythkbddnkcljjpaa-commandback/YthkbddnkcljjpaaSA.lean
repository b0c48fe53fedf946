/-
  Contracts of strip's leaves: numbers, begin, find, Size, the places of whole numbers; the document's begins.
-/
import Derived.Test.YthkbddnkcljjpaaSM
import Derived.Test.YthkbddnkcljjpaaWE
import Derived.Test.YthkbddnkcljjpaaOpen
namespace Go.Proofs.Ythkbddnkcljjpaa
open Go.RowKit Go.Deep
set_option linter.unusedVariables false

theorem ret2' {k l : IntKind} {a b c d : Int} (h : a = c) (g : b = d) : Ending.returned (.tuple #[.int k a, .int l b]) = .returned (.tuple #[.int k c, .int l d]) := by rw [h, g]

set_option maxHeartbeats 1000000 in
theorem numbers_any (k : Nat) (hk : k < 8) (w : World) :
    Calls Try.prog 136 #[.int .i64 k] w fun e w' => e = .returned (.int .u64 (cnt k)) ∧ w = w' := by
  refine below8 (P := fun k => Calls Try.prog 136 #[.int .i64 (k : Int)] w fun e w' => e = .returned (.int .u64 (cnt k)) ∧ w = w') ?_ ?_ ?_ ?_ ?_ ?_ ?_ ?_ k hk
  all_goals
    go_enter Try.func136, Try.ntmps136
    go_wp2
    go_ret
    exact ⟨rfl, rfl⟩

set_option maxHeartbeats 1000000 in
theorem begin_any (s : Nat) (hs : s ≤ 8) (S : Int) (hS : S = (s : Int)) (w : World) :
    Calls Try.prog 134 #[.int .i64 S] w fun e w' => e = .returned (.int .u64 (beg s)) ∧ w = w' := by
  subst hS
  go_enter Try.func134, Try.ntmps134
  go_wp2_with fail
  go_loop [3, 6] (fun t i => ∃ k : Nat, k ≤ s ∧ i = .int .i64 k ∧ t = .int .u64 (beg k)) (fun _ i => s - (intOf i).toNat)
  case atStart => exact ⟨0, by omega, rfl, rfl⟩
  case round =>
    obtain ⟨k, hk, rfl, rfl⟩ := hrel
    by_cases hlt : k < s
    · have B := hid (beg_succ k (by omega))
      have b1 := beg_bd k (by omega)
      have b2 := cnt_bd k (by omega)
      have N := hid (fun w => numbers_any k (show k < 8 by omega) w)
      generalize beg k = b at *
      generalize cnt k = c at *
      obtain ⟨b11, b12⟩ := b1
      obtain ⟨b21, b22⟩ := b2
      go_wp2_with fail
      refine (N.out _).mono ?_
      rintro e w1 ⟨rfl, rfl⟩
      go_wp2
      go_round
      case rel => exact ⟨k + 1, by omega, by go_num, by rw [B.out]⟩
      case measure => simp [intOf]; omega
    · obtain rfl : k = s := by omega
      go_wp2
      go_ret
      exact ⟨rfl, rfl⟩

set_option maxHeartbeats 1000000 in
theorem find_any (x : Int) (h0 : 0 ≤ x) (h1 : x ≤ 18446744073709551615) (w : World) :
    Calls Try.prog 135 #[.int .u64 x] w fun e w' => e = .returned (.tuple #[.int .i64 (shelf x), .int .u64 (x - beg (shelf x))]) ∧ w = w' := by
  go_enter Try.func135, Try.ntmps135
  go_wp2_with fail
  go_loop [0, 5] (fun t i => ∃ k : Nat, k ≤ 8 ∧ i = .int .i64 k ∧ t = .int .u64 (x - beg k) ∧ beg k ≤ x) (fun _ i => 8 - (intOf i).toNat)
  case atStart => exact ⟨0, by omega, rfl, by simp [beg], by simpa [beg] using h0⟩
  case round =>
    obtain ⟨k, hk, rfl, rfl, hb⟩ := hrel
    by_cases hlt : k < 8
    · have B := hid (beg_succ k (by omega))
      have b1 := beg_bd k (by omega)
      have b2 := cnt_bd k (by omega)
      have N := hid (fun w => numbers_any k (show k < 8 by omega) w)
      have SE : Hid (x < beg (k + 1) → shelf x = k) := fun h => shelf_eq k hk hb (fun _ => h)
      have HB : Hid (beg k = beg k) := rfl
      generalize hg : beg k = b at *
      have HG := hid hg
      clear hg
      generalize cnt k = c at *
      obtain ⟨b11, b12⟩ := b1
      obtain ⟨b21, b22⟩ := b2
      by_cases hc : x - b < c
      · have E := hid (SE.out (by rw [B.out]; omega))
        have t1 : decide (x - b < c) = true := by simp; omega
        go_wp2_with fail
        refine (N.out _).mono ?_
        rintro e w1 ⟨rfl, rfl⟩
        go_wp2
        go_ret2
        exact ⟨ret2 (by rw [E.out]) (by rw [E.out, HG.out]), rfl⟩
      · have t1 : decide (x - b < c) = false := by simp; omega
        go_wp2_with fail
        refine (N.out _).mono ?_
        rintro e w1 ⟨rfl, rfl⟩
        go_wp2_with fail
        refine (N.out _).mono ?_
        rintro e w1 ⟨rfl, rfl⟩
        go_wp2
        go_round
        case rel => exact ⟨k + 1, by omega, by go_num, by rw [B.out]; go_num, by rw [B.out]; omega⟩
        case measure => simp [intOf]; omega
    · obtain rfl : k = 8 := by omega
      have E := hid (shelf_eq (x := x) 8 hk hb (fun h => absurd h (by omega)))
      go_wp2
      go_ret2
      exact ⟨ret2 (by rw [E.out]; rfl) (by rw [E.out]), rfl⟩

theorem size_any' (x : Int) (h0 : 0 ≤ x) (h1 : x ≤ 18446744073709551615) (w : World) :
    Calls Try.prog 132 #[.int .u64 x] w fun e w' => e = .returned (.int .i64 (1 + shelf x)) ∧ w = w' := by
  have hs := shelf_le x
  have F := hid (fun w => find_any x h0 h1 w)
  generalize x - beg (shelf x) = f at *
  generalize shelf x = s at *
  go_enter Try.func132, Try.ntmps132
  go_wp2_with fail
  refine (F.out _).mono ?_
  rintro e w1 ⟨rfl, rfl⟩
  go_wp2
  go_ret
  exact ⟨rfl, rfl⟩

/-- The place of a whole number, and the whole number at a place. -/
def zig (x : Int) : Int := if x < 0 then 2 * (-(x + 1)) + 1 else 2 * x
def zag (x : Int) : Int := if x % 2 = 1 then -(x / 2) - 1 else x / 2
theorem zig_bd {x : Int} (h : I64 x) : 0 ≤ zig x ∧ zig x ≤ 18446744073709551615 := by unfold I64 at h; unfold zig; split <;> omega
theorem zag_zig (x : Int) : zag (zig x) = x := by unfold zag zig; split <;> split <;> omega

theorem place_any (x : Int) (h : I64 x) (w : World) :
    Calls Try.prog 120 #[.int .i64 x] w fun e w' => e = .returned (.int .u64 (zig x)) ∧ w = w' := by
  obtain ⟨h1, h2⟩ := h
  by_cases hn : x < 0
  · have t1 : decide (x < 0) = true := by simp; omega
    have E : Hid (2 * (-(x + 1)) + 1 = zig x) := by unfold Hid zig; rw [if_pos hn]
    go_enter Try.func120, Try.ntmps120
    go_wp2
    go_ret
    exact ⟨ret1 E.out, rfl⟩
  · have t1 : decide (x < 0) = false := by simp; omega
    have E : Hid (2 * x = zig x) := by unfold Hid zig; rw [if_neg hn]
    go_enter Try.func120, Try.ntmps120
    go_wp2
    go_ret
    exact ⟨ret1 E.out, rfl⟩

theorem inrow_any (x : Int) (h0 : 0 ≤ x) (h1 : x ≤ 18446744073709551615) (w : World) :
    Calls Try.prog 122 #[.int .u64 x] w fun e w' => e = .returned (.int .i64 (zag x)) ∧ w = w' := by
  by_cases hn : x % 2 = 1
  · have t1 : (x % 2 == 1) = true := by simp; omega
    have E : Hid (-(x / 2) - 1 = zag x) := by unfold Hid zag; rw [if_pos hn]
    clear hn
    go_enter Try.func122, Try.ntmps122
    go_wp2
    go_ret
    exact ⟨ret1 E.out, rfl⟩
  · have t1 : (x % 2 == 1) = false := by simp; omega
    have E : Hid (x / 2 = zag x) := by unfold Hid zag; rw [if_neg hn]
    clear hn
    go_enter Try.func122, Try.ntmps122
    go_wp2
    go_ret
    exact ⟨ret1 E.out, rfl⟩

set_option maxHeartbeats 1000000 in
theorem begins_any (s : Nat) (h1 : 1 ≤ s) (hs : s ≤ 8) (S : Int) (hS : S = (s : Int)) (w : World) :
    Calls Try.prog 111 #[.int .i64 S] w fun e w' => e = .returned (.int .u64 (beg s)) ∧ w = w' := by
  subst hS
  go_enter Try.func111, Try.ntmps111
  go_wp2_with fail
  go_loop [3, 4, 5] (fun t z i => ∃ k : Nat, 1 ≤ k ∧ k ≤ s ∧ i = .int .i64 k ∧ t = .int .u64 (beg k) ∧ ∃ c : Int, z = .int .u64 c ∧ 0 ≤ c ∧ c ≤ 18446744073709551615 ∧ Hid (k < 8 → c = cnt k)) (fun _ _ i => s - (intOf i).toNat)
  case atStart => exact ⟨1, by omega, by omega, rfl, rfl, 256, rfl, by omega, by omega, fun _ => rfl⟩
  case round =>
    obtain ⟨k, hk1, hk, rfl, rfl, c, rfl, c0, c1, hc⟩ := hrel
    by_cases hlt : k < s
    · have B := hid (beg_succ k (by omega))
      have b1 := beg_bd k (by omega)
      have b2 := cnt_bd k (by omega)
      obtain rfl := hc.out (by omega)
      have P : Hid (k + 1 < 8 → cnt k * 256 = cnt (k + 1)) := fun h => by rw [cnt_pow k (by omega) (by omega), cnt_pow (k + 1) h (by omega), Int.pow_succ]
      have Q : Hid (cnt k * 256 ≤ 18446744073709551616 * 1) := by unfold Hid; omega
      generalize beg k = b at *
      generalize cnt k = c at *
      obtain ⟨b11, b12⟩ := b1
      obtain ⟨b21, b22⟩ := b2
      by_cases h7 : k + 1 < 8
      · have R : c * 256 ≤ 18446744073709551615 := by
          have := P.out h7
          have := cnt_bd (k + 1) h7
          omega
        have R2 := hid (P.out h7)
        go_wp2
        go_round
        case rel => exact ⟨k + 1, by omega, by omega, by go_num, by rw [B.out], _, rfl, by omega, by omega, fun _ => R2.out⟩
        case measure => simp [intOf]; omega
      · have R : 0 ≤ IntKind.u64.wrap (c * 256) ∧ IntKind.u64.wrap (c * 256) ≤ 18446744073709551615 := by rw [IntKind.wrap_u64]; omega
        have RR := hid R
        clear R
        go_wp2
        go_round
        case rel => exact ⟨k + 1, by omega, by omega, by go_num, by rw [B.out], _, rfl, RR.out.1, RR.out.2, fun h => absurd h (by omega)⟩
        case measure => simp [intOf]; omega
    · obtain rfl : k = s := by omega
      go_wp2
      go_ret
      exact ⟨rfl, rfl⟩

end Go.Proofs.Ythkbddnkcljjpaa
