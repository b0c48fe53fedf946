/-
  Contracts of strip: Read, and the document's GetNum, at any place of any bytes.
-/
import Derived.Test.YthkbddnkcljjpaaSF
namespace Go.Proofs.Ythkbddnkcljjpaa
open Go.RowKit Go.Deep
set_option linter.unusedVariables false

set_option maxRecDepth 100000 in
set_option maxHeartbeats 1000000 in
theorem getnum_far (b off len cap n k : Nat) (l : List Int) (w : World) (h : HoldsB w (some ⟨b, off, none⟩) len cap l) (hn : n < len) (hk : k ≤ 8) (hk1 : 1 ≤ k) (hx : l[n]?.getD 0 = 191 + k) (R : Int × Int × Int) (HR : Hid (R = if (len : Int) - n - 1 < k then (0, (len : Int), 5) else if 18446744073709551615 < beg k + val ((l.drop (n + 1)).take k) then (0, (n : Int), 4) else (beg k + val ((l.drop (n + 1)).take k), (n : Int) + 1 + k, 0))) :
    Calls Try.prog 89 #[.slice (some ⟨b, off, none⟩) len cap, .int .i64 n] w fun e w' => e = .returned (.tuple #[.int .u64 R.1, .int .i64 R.2.1, .int .i64 R.2.2]) ∧ w = w' := by
  have hc0 := h.2.2.2.2.2.2 (by omega)
  have HC : Hid (∀ j, j < len → w.cell? ⟨b, off + j, none⟩ = some (.int .u8 (l[j]?.getD 0))) := by
    obtain ⟨b', off', e, hc⟩ := hc0
    cases e
    exact hc
  have hcell : w.cell? ⟨b, off + n, none⟩ = some (.int .u8 (191 + k)) := by rw [HC.out n hn, hx]
  have hlen := h.1
  have hm := h.2.1
  have hmc := h.2.2.1
  have hmx := h.2.2.2.1
  have hbb := h.2.2.2.2.1
  have HL := hid hlen
  clear h hc0 hlen hx
  have t1 : decide ((n : Int) < 0) = false := by simp
  have t2 : decide ((len : Int) < (n : Int)) = false := by simp; omega
  have t3 : ((n : Int) == (len : Int)) = false := by simp; omega
  have t4 : decide ((191 : Int) + k < 192) = false := by simp; omega
  have t5 : decide ((200 : Int) ≤ 191 + k) = false := by simp; omega
  have fb := val_bd ((l.drop (n + 1)).take k) ((hbb.drop (n + 1)).take k)
  have fl : ((l.drop (n + 1)).take k).length = min k (len - (n + 1)) := by rw [List.length_take, List.length_drop, HL.out]
  have bb := beg_bd k hk
  obtain ⟨bb0, bb1⟩ := bb
  by_cases hsh : (len : Int) - n - 1 < k
  · have t6 : decide ((len : Int) - n - 1 < 191 + k - 191) = true := by simp; omega
    rw [if_pos hsh] at HR
    clear fl fb hbb
    go_enter Try.func89, Try.ntmps89
    go_wp2
    go_ret3
    exact ⟨ret3 HR.out, rfl⟩
  · have t6 : decide ((len : Int) - n - 1 < 191 + k - 191) = false := by simp; omega
    rw [if_neg hsh] at HR
    have f1 : val ((l.drop (n + 1)).take k) ≤ 18446744073709551615 := by
      by_cases e8 : k = 8
      · subst e8
        have : ((l.drop (n + 1)).take 8).length = 8 := by omega
        rw [this] at fb
        have : (256 : Int) ^ 8 = 18446744073709551616 := by decide
        omega
      · have := pow7 ((l.drop (n + 1)).take k).length (by omega)
        omega
    have f0 := fb.1
    clear fl fb
    have BG := hid (fun (S : Int) (hS : S = (k : Int)) w => begins_any k hk1 hk S hS w)
    obtain ⟨V, hV⟩ : ∃ V, V = val ((l.drop (n + 1)).take k) := ⟨_, rfl⟩
    rw [← hV] at HR f1 f0
    have HV := hid hV
    clear hV
    go_enter Try.func89, Try.ntmps89
    go_wp2_with fail
    go_loop [8, 9] (fun f i => ∃ j : Nat, j ≤ k ∧ i = .int .i64 j ∧ f = .int .u64 (val ((l.drop (n + 1)).take j))) (fun _ i => k - (intOf i).toNat)
    case atStart => exact ⟨0, by omega, rfl, rfl⟩
    case round =>
      obtain ⟨j, hj, rfl, rfl⟩ := hrel
      by_cases hlt : j < k
      · have cx : w.cell? ⟨b, off + (n + 1 + j), none⟩ = some (.int .u8 (l[n + 1 + j]?.getD 0)) := HC.out (n + 1 + j) (by omega)
        have x0 := hbb.getD (n + 1 + j)
        obtain ⟨x0, x1⟩ := x0
        have VS : Hid (val ((l.drop (n + 1)).take (j + 1)) = val ((l.drop (n + 1)).take j) * 256 + l[n + 1 + j]?.getD 0) := by
          have : j < (l.drop (n + 1)).length := by rw [List.length_drop, HL.out]; omega
          unfold Hid
          rw [List.take_succ_eq_append_getElem this, val_snoc, List.getElem?_eq_getElem (show n + 1 + j < l.length by rw [HL.out]; omega)]
          simp
        have vb := val_bd ((l.drop (n + 1)).take j) ((hbb.drop (n + 1)).take j)
        have v0 := vb.1
        have v1 : val ((l.drop (n + 1)).take j) < 72057594037927936 := by
          have := pow7 ((l.drop (n + 1)).take j).length (by have := List.length_take_le j (l.drop (n + 1)); omega)
          omega
        clear vb
        generalize val ((l.drop (n + 1)).take j) = v at *
        generalize l[n + 1 + j]?.getD 0 = x at *
        have tj : decide ((j : Int) < 191 + k - 191) = true := by simp; omega
        go_wp2
        go_round
        case rel => exact ⟨j + 1, by omega, by go_num, by rw [VS.out]⟩
        case measure => simp [intOf]; omega
      · obtain rfl : j = k := by omega
        have tj : decide ((j : Int) < 191 + j - 191) = false := by simp; omega
        rw [← HV.out]
        generalize beg j = g at *
        by_cases hov : 18446744073709551615 < g + V
        · rw [if_pos hov] at HR
          have t7 : decide (18446744073709551615 - g < V) = true := by simp; omega
          go_wp2_with fail
          refine (BG.out _ (by omega) _).mono ?_
          rintro e w1 ⟨rfl, rfl⟩
          go_wp2
          go_ret3
          exact ⟨ret3 HR.out, rfl⟩
        · rw [if_neg hov] at HR
          have t7 : decide (18446744073709551615 - g < V) = false := by simp; omega
          go_wp2_with fail
          refine (BG.out _ (by omega) _).mono ?_
          rintro e w1 ⟨rfl, rfl⟩
          go_wp2_with fail
          refine (BG.out _ (by omega) _).mono ?_
          rintro e w1 ⟨rfl, rfl⟩
          go_wp2
          go_ret3
          exact ⟨ret3 (HR.out.trans (by congr 2; omega)), rfl⟩

set_option maxRecDepth 100000 in
set_option maxHeartbeats 1000000 in
theorem read_any (a : Option Addr) (len cap : Nat) (l : List Int) (p : Int) (w : World) (h : HoldsB w a len cap l) (hp : I64 p) :
    Calls Try.prog 121 #[.slice a len cap, .int .i64 p] w fun e w' => e = .returned (.tuple #[.int .u64 (rd l p).1, .int .i64 (rd l p).2.1, .int .i64 (rd l p).2.2]) ∧ w = w' := by
  have hlen := h.1
  have hm := h.2.1
  by_cases h1 : p < 0
  · have E : Hid (rd l p = (0, 0, 1)) := by unfold Hid rd; rw [if_pos (Or.inl h1)]
    have t1 : decide (p < 0) = true := by simp; omega
    clear h hlen
    go_enter Try.func121, Try.ntmps121
    go_wp2
    go_ret3
    exact ⟨ret3 E.out, rfl⟩
  have t1 : decide (p < 0) = false := by simp; omega
  by_cases h2 : (len : Int) < p
  · have E : Hid (rd l p = (0, 0, 1)) := by unfold Hid rd; rw [hlen, if_pos (Or.inr h2)]
    have t2 : decide ((len : Int) < p) = true := by simp; omega
    clear h hlen
    go_enter Try.func121, Try.ntmps121
    go_wp2
    go_ret3
    exact ⟨ret3 E.out, rfl⟩
  have t2 : decide ((len : Int) < p) = false := by simp; omega
  by_cases h3 : p = len
  · have E : Hid (rd l p = (0, (len : Int), 5)) := by unfold Hid rd; rw [hlen, if_neg (by omega), if_pos h3]
    have t3 : (p == (len : Int)) = true := by simp [h3]
    clear h hlen h3
    go_enter Try.func121, Try.ntmps121
    go_wp2
    go_ret3
    exact ⟨ret3 E.out, rfl⟩
  obtain ⟨n, rfl⟩ := Int.eq_ofNat_of_zero_le (show 0 ≤ p by omega)
  have t3 : ((n : Int) == (len : Int)) = false := by simp; omega
  obtain ⟨b, off, rfl, hc⟩ := h.2.2.2.2.2.2 (by omega)
  have x01 := h.2.2.2.2.1.getD n
  have cx := hc n (by omega)
  have E0 : rd l n = if l[n]?.getD 0 < 192 then (l[n]?.getD 0, (n : Int) + 1, 0) else if 200 ≤ l[n]?.getD 0 then (0, (n : Int), 4) else if (len : Int) - n - 1 < l[n]?.getD 0 - 191 then (0, (len : Int), 5)
      else if 18446744073709551615 < beg (l[n]?.getD 0 - 191).toNat + val ((l.drop (n + 1)).take (l[n]?.getD 0 - 191).toNat) then (0, (n : Int), 4) else (beg (l[n]?.getD 0 - 191).toNat + val ((l.drop (n + 1)).take (l[n]?.getD 0 - 191).toNat), (n : Int) + 1 + (l[n]?.getD 0 - 191), 0) := by
    unfold rd
    rw [hlen, if_neg (by omega), if_neg h3]
    rfl
  obtain ⟨x, hx⟩ : ∃ x, x = l[n]?.getD 0 := ⟨_, rfl⟩
  rw [← hx] at E0 cx x01
  by_cases h4 : x < 192
  · rw [if_pos h4] at E0
    have E := hid E0
    have t4 : decide (x < 192) = true := by simp; omega
    clear h hlen hx hc E0
    go_enter Try.func121, Try.ntmps121
    go_wp2
    go_ret3
    exact ⟨ret3 E.out, rfl⟩
  have t4 : decide (x < 192) = false := by simp; omega
  rw [if_neg h4] at E0
  by_cases h5 : 200 ≤ x
  · rw [if_pos h5] at E0
    have E := hid E0
    have t5 : decide ((8 : Int) < x - 192 + 1) = true := by simp; omega
    clear h hlen hx hc E0
    go_enter Try.func121, Try.ntmps121
    go_wp2
    go_ret3
    exact ⟨ret3 E.out, rfl⟩
  rw [if_neg h5] at E0
  obtain ⟨k, hk⟩ : ∃ k : Nat, x = 191 + k := ⟨(x - 191).toNat, by omega⟩
  have e1 : x - 191 = k := by omega
  rw [e1, Int.toNat_natCast] at E0
  rw [E0]
  exact read_far b off len cap n k l w h (by omega) (by omega) (by omega) (by rw [← hx]; exact hk) _ rfl

set_option maxRecDepth 100000 in
set_option maxHeartbeats 1000000 in
theorem getnum_any (a : Option Addr) (len cap : Nat) (l : List Int) (p : Int) (w : World) (h : HoldsB w a len cap l) (hp : I64 p) :
    Calls Try.prog 89 #[.slice a len cap, .int .i64 p] w fun e w' => e = .returned (.tuple #[.int .u64 (rd l p).1, .int .i64 (rd l p).2.1, .int .i64 (rd l p).2.2]) ∧ w = w' := by
  have hlen := h.1
  have hm := h.2.1
  by_cases h1 : p < 0
  · have E : Hid (rd l p = (0, 0, 1)) := by unfold Hid rd; rw [if_pos (Or.inl h1)]
    have t1 : decide (p < 0) = true := by simp; omega
    clear h hlen
    go_enter Try.func89, Try.ntmps89
    go_wp2
    go_ret3
    exact ⟨ret3 E.out, rfl⟩
  have t1 : decide (p < 0) = false := by simp; omega
  by_cases h2 : (len : Int) < p
  · have E : Hid (rd l p = (0, 0, 1)) := by unfold Hid rd; rw [hlen, if_pos (Or.inr h2)]
    have t2 : decide ((len : Int) < p) = true := by simp; omega
    clear h hlen
    go_enter Try.func89, Try.ntmps89
    go_wp2
    go_ret3
    exact ⟨ret3 E.out, rfl⟩
  have t2 : decide ((len : Int) < p) = false := by simp; omega
  by_cases h3 : p = len
  · have E : Hid (rd l p = (0, (len : Int), 5)) := by unfold Hid rd; rw [hlen, if_neg (by omega), if_pos h3]
    have t3 : (p == (len : Int)) = true := by simp [h3]
    clear h hlen h3
    go_enter Try.func89, Try.ntmps89
    go_wp2
    go_ret3
    exact ⟨ret3 E.out, rfl⟩
  obtain ⟨n, rfl⟩ := Int.eq_ofNat_of_zero_le (show 0 ≤ p by omega)
  have t3 : ((n : Int) == (len : Int)) = false := by simp; omega
  obtain ⟨b, off, rfl, hc⟩ := h.2.2.2.2.2.2 (by omega)
  have x01 := h.2.2.2.2.1.getD n
  have cx := hc n (by omega)
  have E0 : rd l n = if l[n]?.getD 0 < 192 then (l[n]?.getD 0, (n : Int) + 1, 0) else if 200 ≤ l[n]?.getD 0 then (0, (n : Int), 4) else if (len : Int) - n - 1 < l[n]?.getD 0 - 191 then (0, (len : Int), 5)
      else if 18446744073709551615 < beg (l[n]?.getD 0 - 191).toNat + val ((l.drop (n + 1)).take (l[n]?.getD 0 - 191).toNat) then (0, (n : Int), 4) else (beg (l[n]?.getD 0 - 191).toNat + val ((l.drop (n + 1)).take (l[n]?.getD 0 - 191).toNat), (n : Int) + 1 + (l[n]?.getD 0 - 191), 0) := by
    unfold rd
    rw [hlen, if_neg (by omega), if_neg h3]
    rfl
  obtain ⟨x, hx⟩ : ∃ x, x = l[n]?.getD 0 := ⟨_, rfl⟩
  rw [← hx] at E0 cx x01
  by_cases h4 : x < 192
  · rw [if_pos h4] at E0
    have E := hid E0
    have t4 : decide (x < 192) = true := by simp; omega
    clear h hlen hx hc E0
    go_enter Try.func89, Try.ntmps89
    go_wp2
    go_ret3
    exact ⟨ret3 E.out, rfl⟩
  have t4 : decide (x < 192) = false := by simp; omega
  rw [if_neg h4] at E0
  by_cases h5 : 200 ≤ x
  · rw [if_pos h5] at E0
    have E := hid E0
    have t5 : decide ((200 : Int) ≤ x) = true := by simp; omega
    clear h hlen hx hc E0
    go_enter Try.func89, Try.ntmps89
    go_wp2
    go_ret3
    exact ⟨ret3 E.out, rfl⟩
  rw [if_neg h5] at E0
  obtain ⟨k, hk⟩ : ∃ k : Nat, x = 191 + k := ⟨(x - 191).toNat, by omega⟩
  have e1 : x - 191 = k := by omega
  rw [e1, Int.toNat_natCast] at E0
  rw [E0]
  exact getnum_far b off len cap n k l w h (by omega) (by omega) (by omega) (by rw [← hx]; exact hk) _ rfl

theorem rd_bd (l : List Int) (p : Int) (h : BB l) : 0 ≤ (rd l p).1 ∧ (rd l p).1 ≤ 18446744073709551615 := by
  unfold rd
  have b := h.getD p.toNat
  split
  · simp
  split
  · simp
  split
  · simp only; omega
  split
  · simp
  split
  · simp
  split
  · simp
  · simp only
    have := beg_bd (l[p.toNat]?.getD 0 - 191).toNat (by omega)
    have := val_bd ((l.drop (p.toNat + 1)).take (l[p.toNat]?.getD 0 - 191).toNat) ((h.drop _).take _)
    omega
end Go.Proofs.Ythkbddnkcljjpaa
