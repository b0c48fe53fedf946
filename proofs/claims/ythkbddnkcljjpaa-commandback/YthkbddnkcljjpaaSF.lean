/-
  Contracts of strip: what is read at any place.
-/
import Derived.Test.YthkbddnkcljjpaaSE
namespace Go.Proofs.Ythkbddnkcljjpaa
open Go.RowKit Go.Deep
set_option linter.unusedVariables false

theorem pow7 (n : Nat) (h : n < 8) : (256 : Int) ^ n ≤ 72057594037927936 := below8 (P := fun n => (256 : Int) ^ n ≤ 72057594037927936) (by decide) (by decide) (by decide) (by decide) (by decide) (by decide) (by decide) (by decide) n h
theorem or8 {v x : Int} (v0 : 0 ≤ v) (v1 : v < 72057594037927936) (x0 : 0 ≤ x) (x1 : x ≤ 255) : bits .or .u64 (v * 256) x = v * 256 + x := by
  obtain ⟨a, rfl⟩ := Int.eq_ofNat_of_zero_le v0
  obtain ⟨b, rfl⟩ := Int.eq_ofNat_of_zero_le x0
  have e : (a : Int) * 256 = ((a * 256 : Nat) : Int) := by omega
  rw [e, bits_or_u64_nat _ _ (by omega) (by omega)]
  have := Nat.two_pow_add_eq_or_of_lt (i := 8) (b := b) (by omega) a
  rw [show a * 256 = 2 ^ 8 * a by omega, ← this]
  omega

set_option maxHeartbeats 1000000 in
theorem dist_row (b off len cap c : Nat) (l : List Int) (w : World) (hlen : l.length = len) (hm : len ≤ 9223372036854775807) (hc8 : c ≤ 8) (hb : BB l)
    (hc : ∀ j, j < len → w.cell? ⟨b, off + j, none⟩ = some (.int .u8 (l[j]?.getD 0))) :
    Calls Try.prog 133 #[.slice (some ⟨b, off, none⟩) len cap, .int .i64 c] w fun e w' => e = .returned (.tuple #[.int .u64 (val (l.take c)), .int .i64 ((c : Int) - ((l.take c).length : Nat))]) ∧ w = w' := by
  have HC := hid hc
  have HL := hid hlen
  clear hc hlen
  go_enter Try.func133, Try.ntmps133
  go_wp2_with fail
  go_step3
  go_wp2_with fail
  go_step3
  go_wp2_with fail
  go_loop [6, 7, 13] (fun f m i => ∃ k : Nat, k ≤ len ∧ k ≤ c ∧ i = .int .i64 k ∧ f = .int .u64 (val (l.take k)) ∧ m = .int .i64 ((c : Int) - k)) (fun _ _ i => len - (intOf i).toNat)
  case atStart => exact ⟨0, by omega, by omega, rfl, rfl, by simp⟩
  case round =>
    obtain ⟨k, hk, hkc, rfl, rfl, rfl⟩ := hrel
    by_cases hlt : k < len
    · have cx := HC.out k hlt
      have x0 := hb.getD k
      obtain ⟨x0, x1⟩ := x0
      by_cases hz : k < c
      · have VS : Hid (val (l.take (k + 1)) = val (l.take k) * 256 + l[k]?.getD 0) := by
          have : k < l.length := by rw [HL.out]; exact hlt
          unfold Hid
          rw [List.take_succ_eq_append_getElem this, val_snoc, List.getElem?_eq_getElem this]; rfl
        have vb := val_bd (l.take k) (hb.take k)
        generalize val (l.take k) = v at *
        generalize l[k]?.getD 0 = x at *
        have v0 := vb.1
        have v1 : v < 72057594037927936 := by
          have := pow7 (l.take k).length (by have := List.length_take_le k l; omega)
          omega
        clear vb
        have tz : ((c : Int) - k == 0) = false := by simp; omega
        have OR := hid (or8 v0 v1 x0 x1)
        go_wp2
        go_round
        case rel => exact ⟨k + 1, by omega, by omega, by go_num, by rw [OR.out, VS.out], by go_num⟩
        case measure => simp [intOf]; omega
      · obtain rfl : k = c := by omega
        have tz : ((k : Int) - k == 0) = true := by simp
        have E : Hid ((k : Int) - k = (k : Int) - ((l.take k).length : Nat)) := by
          have : k ≤ l.length := by rw [HL.out]; omega
          unfold Hid
          rw [List.length_take_of_le this]
        go_wp2
        go_ret2
        exact ⟨ret2 rfl (by rw [← E.out]; simp), rfl⟩
    · obtain rfl : k = len := by omega
      have E : Hid (l.take c = l.take k) := by
        unfold Hid
        rw [List.take_of_length_le (by rw [HL.out]; exact hkc), List.take_of_length_le (by rw [HL.out]; omega)]
      have E2 : Hid ((l.take k).length = k) := by
        unfold Hid
        rw [List.length_take_of_le (by rw [HL.out]; omega)]
      go_wp2
      go_ret2
      exact ⟨ret2 (by rw [E.out]) (by rw [E.out, E2.out]), rfl⟩

set_option maxHeartbeats 1000000 in
theorem dist_zero (a : Option Addr) (cap c : Nat) (w : World) (hc8 : c ≤ 8) :
    Calls Try.prog 133 #[.slice a 0 cap, .int .i64 c] w fun e w' => e = .returned (.tuple #[.int .u64 0, .int .i64 c]) ∧ w = w' := by
  go_enter Try.func133, Try.ntmps133
  go_wp2_with fail
  go_step3
  go_wp2_with fail
  go_step3
  go_wp2_with fail
  go_loop [6, 7, 13] (fun f m i => i = .int .i64 0 ∧ f = .int .u64 0 ∧ m = .int .i64 c) (fun _ _ i => 0)
  case atStart => exact ⟨rfl, rfl, rfl⟩
  case round =>
    obtain ⟨rfl, rfl, rfl⟩ := hrel
    go_wp2
    go_ret2
    exact ⟨rfl, rfl⟩
theorem dist_zero' (a : Option Addr) (cap c : Nat) (C : Int) (hC : C = (c : Int)) (w : World) (hc8 : c ≤ 8) :
    Calls Try.prog 133 #[.slice a 0 cap, .int .i64 C] w fun e w' => e = .returned (.tuple #[.int .u64 0, .int .i64 c]) ∧ w = w' := by
  subst hC; exact dist_zero a cap c w hc8
theorem dist_any (a : Option Addr) (len cap c : Nat) (C : Int) (hC : C = (c : Int)) (l : List Int) (w : World) (h : HoldsB w a len cap l) (hc8 : c ≤ 8) :
    Calls Try.prog 133 #[.slice a len cap, .int .i64 C] w fun e w' => e = .returned (.tuple #[.int .u64 (val (l.take c)), .int .i64 ((c : Int) - ((l.take c).length : Nat))]) ∧ w = w' := by
  subst hC
  obtain ⟨h1, h2, h3, h4, h5, h6, h7⟩ := h
  by_cases hp : 0 < len
  · obtain ⟨b, off, rfl, hc⟩ := h7 hp
    exact dist_row b off len cap c l w h1 h2 hc8 h5 hc
  · obtain rfl : len = 0 := by omega
    obtain rfl : l = [] := List.length_eq_zero_iff.1 h1
    simpa [val] using dist_zero a cap c w hc8

/-- What is read at a place: the number, the place behind it or of the fault, the error. -/
def rd (l : List Int) (at' : Int) : Int × Int × Int :=
  if at' < 0 ∨ (l.length : Int) < at' then (0, 0, 1)
  else if at' = l.length then (0, l.length, 5)
  else if l[at'.toNat]?.getD 0 < 192 then (l[at'.toNat]?.getD 0, at' + 1, 0)
  else if 200 ≤ l[at'.toNat]?.getD 0 then (0, at', 4)
  else if (l.length : Int) - at' - 1 < l[at'.toNat]?.getD 0 - 191 then (0, l.length, 5)
  else if 18446744073709551615 < beg (l[at'.toNat]?.getD 0 - 191).toNat + val ((l.drop (at'.toNat + 1)).take (l[at'.toNat]?.getD 0 - 191).toNat) then (0, at', 4)
  else (beg (l[at'.toNat]?.getD 0 - 191).toNat + val ((l.drop (at'.toNat + 1)).take (l[at'.toNat]?.getD 0 - 191).toNat), at' + 1 + (l[at'.toNat]?.getD 0 - 191), 0)

theorem ret3 {k m n : IntKind} {a b c x y z : Int} (h : (x, y, z) = (a, b, c)) : Ending.returned (.tuple #[.int k a, .int m b, .int n c]) = .returned (.tuple #[.int k x, .int m y, .int n z]) := by cases h; rfl

/-- The cells from a place on. -/
theorem holds_from {w : World} {b off len cap : Nat} {l : List Int} (h : HoldsB w (some ⟨b, off, none⟩) len cap l) (k : Nat) (hk : k ≤ len) (a : Option Addr) (ha : ¬ cap = k → a = some ⟨b, off + k, none⟩) (hn : a ≠ none) : HoldsB w a (len - k) (cap - k) (l.drop k) := by
  obtain ⟨h1, h2, h3, h4, h5, h6, h7⟩ := h
  refine ⟨by simp [h1], by omega, by omega, by omega, h5.drop k, fun e => absurd e hn, fun hp => ?_⟩
  obtain ⟨b', off', e, hc⟩ := h7 (by omega)
  cases e
  refine ⟨b, off + k, ha (by omega), fun j hj => ?_⟩
  rw [Nat.add_assoc, hc (k + j) (by omega), List.getElem?_drop]

set_option maxHeartbeats 1000000 in
set_option maxRecDepth 100000 in
theorem read_far (b off len cap n k : Nat) (l : List Int) (w : World) (h : HoldsB w (some ⟨b, off, none⟩) len cap l) (hn : n < len) (hk : k ≤ 8) (hk1 : 1 ≤ k) (hx : l[n]?.getD 0 = 191 + k) (R : Int × Int × Int) (HR : Hid (R = if (len : Int) - n - 1 < k then (0, (len : Int), 5) else if 18446744073709551615 < beg k + val ((l.drop (n + 1)).take k) then (0, (n : Int), 4) else (beg k + val ((l.drop (n + 1)).take k), (n : Int) + 1 + k, 0))) :
    Calls Try.prog 121 #[.slice (some ⟨b, off, none⟩) len cap, .int .i64 n] w fun e w' => e = .returned (.tuple #[.int .u64 R.1, .int .i64 R.2.1, .int .i64 R.2.2]) ∧ w = w' := by
  have hc0 := h.2.2.2.2.2.2 (by omega)
  have hcell : w.cell? ⟨b, off + n, none⟩ = some (.int .u8 (191 + k)) := by
    obtain ⟨b', off', e, hc⟩ := hc0
    cases e
    rw [hc n hn, hx]
  have hlen := h.1
  have hm := h.2.1
  have hmc := h.2.2.1
  have hmx := h.2.2.2.1
  have H := hid h
  have hbb := h.2.2.2.2.1
  have HL := hid hlen
  clear h hc0 hlen hx
  have t1 : decide ((n : Int) < 0) = false := by simp
  have t2 : decide ((len : Int) < (n : Int)) = false := by simp; omega
  have t3 : ((n : Int) == (len : Int)) = false := by simp; omega
  have t4 : decide ((191 : Int) + k < 192) = false := by simp; omega
  have t5 : decide ((8 : Int) < 191 + k - 192 + 1) = false := by simp; omega
  have fl : ((l.drop (n + 1)).take k).length = min k (len - (n + 1)) := by rw [List.length_take, List.length_drop, HL.out]
  have fb := val_bd ((l.drop (n + 1)).take k) ((hbb.drop (n + 1)).take k)
  have D : Hid (∀ (A : Option Addr) (C : Int), (¬ cap = n + 1 → A = some ⟨b, off + (n + 1), none⟩) → A ≠ none → C = k → ∀ w', w' = w → Calls Try.prog 133 #[.slice A (len - (n + 1)) (cap - (n + 1)), .int .i64 C] w' fun e w'' => e = .returned (.tuple #[.int .u64 (val ((l.drop (n + 1)).take k)), .int .i64 ((k : Int) - (((l.drop (n + 1)).take k).length : Nat))]) ∧ w' = w'') := by
    rintro A C h1 h2 h3 w' rfl
    exact dist_any A _ _ k C h3 _ _ (holds_from H.out (n + 1) hn A h1 h2) hk
  have bb := beg_bd k hk
  have f8 : k ≤ len - (n + 1) → val ((l.drop (n + 1)).take k) ≤ 18446744073709551615 := by
    intro hh
    by_cases e8 : k = 8
    · subst e8
      have : ((l.drop (n + 1)).take 8).length = 8 := by omega
      rw [this] at fb
      have : (256 : Int) ^ 8 = 18446744073709551616 := by decide
      omega
    · have := pow7 ((l.drop (n + 1)).take k).length (by omega)
      omega
  have fb0 := fb.1
  clear hbb fb
  generalize val ((l.drop (n + 1)).take k) = f at *
  obtain ⟨M, hM⟩ : ∃ M : Int, M = (k : Int) - (((l.drop (n + 1)).take k).length : Nat) := ⟨_, rfl⟩
  rw [← hM] at D
  rw [fl] at hM
  clear fl
  obtain ⟨bb0, bb1⟩ := bb
  by_cases hcap : cap = n + 1
  · subst hcap
    obtain rfl : len = n + 1 := by omega
    have hsh : (((n + 1 : Nat) : Int)) - n - 1 < k := by omega
    have t6 : decide ((0 : Int) < k) = true := by simp; omega
    rw [if_pos hsh] at HR
    clear hM f8 D H HL hsh
    go_enter Try.func121, Try.ntmps121
    go_wp2_with fail
    refine (dist_zero' _ _ k _ (by omega) _ hk).mono ?_
    rintro e w1 ⟨rfl, rfl⟩
    go_wp2
    go_ret3
    exact ⟨ret3 HR.out, rfl⟩
  by_cases hsh : (len : Int) - n - 1 < k
  · have t6 : decide (0 < M) = true := by simp; omega
    rw [if_pos hsh] at HR
    clear hM f8
    go_enter Try.func121, Try.ntmps121
    go_wp2_with fail
    refine (D.out _ _ (fun _ => rfl) (by simp) (by omega) _ rfl).mono ?_
    rintro e w1 ⟨rfl, rfl⟩
    go_wp2
    go_ret3
    exact ⟨ret3 HR.out, rfl⟩
  · have t6 : decide (0 < M) = false := by simp; omega
    rw [if_neg hsh] at HR
    have f1 := f8 (by omega)
    clear hM f8
    have BG := hid (fun (S : Int) (hS : S = (k : Int)) w => begin_any k hk S hS w)
    generalize beg k = g at *
    by_cases hov : 18446744073709551615 < g + f
    · rw [if_pos hov] at HR
      have t7 : decide (IntKind.u64.wrap (g + f) < f) = true := by rw [IntKind.wrap_u64]; simp; omega
      go_enter Try.func121, Try.ntmps121
      go_wp2_with fail
      refine (D.out _ _ (fun _ => rfl) (by simp) (by omega) _ rfl).mono ?_
      rintro e w1 ⟨rfl, rfl⟩
      go_wp2_with fail
      refine (BG.out _ (by omega) _).mono ?_
      rintro e w1 ⟨rfl, rfl⟩
      go_wp2
      go_ret3
      exact ⟨ret3 HR.out, rfl⟩
    · rw [if_neg hov] at HR
      have t7 : decide (g + f < f) = false := by simp; omega
      go_enter Try.func121, Try.ntmps121
      go_wp2_with fail
      refine (D.out _ _ (fun _ => rfl) (by simp) (by omega) _ rfl).mono ?_
      rintro e w1 ⟨rfl, rfl⟩
      go_wp2_with fail
      refine (BG.out _ (by omega) _).mono ?_
      rintro e w1 ⟨rfl, rfl⟩
      go_wp2
      go_ret3
      exact ⟨ret3 (HR.out.trans (by congr 2; omega)), rfl⟩

end Go.Proofs.Ythkbddnkcljjpaa
