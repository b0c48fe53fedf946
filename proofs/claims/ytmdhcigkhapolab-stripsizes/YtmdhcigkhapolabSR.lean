/-
  Contract of the law's own 'ahead'.
-/
import Derived.Test.YtmdhcigkhapolabSQ
import Derived.Deep.QuietTactic
import Derived.BigQuiet
namespace Go.Proofs.Ytmdhcigkhapolab
open Go.RowKit Go.Deep
set_option linter.unusedVariables false

theorem lex_drop {l p : List Int} {k : Nat} (h1 : k < l.length) (h2 : k < p.length) : lex (l.drop k) (p.drop k) = if l[k]?.getD 0 = p[k]?.getD 0 then lex (l.drop (k + 1)) (p.drop (k + 1)) else decide (l[k]?.getD 0 < p[k]?.getD 0) := by
  rw [List.drop_eq_getElem_cons h1, List.drop_eq_getElem_cons h2, List.getElem?_eq_getElem h1, List.getElem?_eq_getElem h2]
  rfl
theorem lex_end {l p : List Int} (h : l = [] ∨ p = []) : lex l p = false := by
  rcases h with rfl | rfl
  · cases p <;> rfl
  · cases l <;> rfl

set_option maxHeartbeats 2000000 in
theorem ahead_le (b off n cap b2 off2 m cap2 : Nat) (l p : List Int) (w : World) (hl : l.length = n) (hp : p.length = m) (hk0 : n ≤ m) (hn : n ≤ 9223372036854775807) (hm : m ≤ 9223372036854775807)
    (hc : ∀ j, j < n → w.cell? ⟨b, off + j, none⟩ = some (.int .u8 (l[j]?.getD 0))) (hc2 : ∀ j, j < m → w.cell? ⟨b2, off2 + j, none⟩ = some (.int .u8 (p[j]?.getD 0))) :
    Calls Try.prog 31 #[.slice (some ⟨b, off, none⟩) n cap, .slice (some ⟨b2, off2, none⟩) m cap2] w fun e w' => e = .returned (.bool (lex l p)) ∧ Below w.heap.size w w' := by
  have HC := hid hc
  have HC2 := hid hc2
  have HL := hid hl
  have HP := hid hp
  clear hc hc2 hl hp
  go_enter Try.func31, Try.ntmps31
  go_wp2_with fail
  go_loopw [11] (fun i wr => ∃ k : Nat, k ≤ n ∧ i = .int .i64 k ∧ Hid (lex (l.drop k) (p.drop k) = lex l p) ∧ Below w.heap.size w wr) (fun i _ => n - (intOf i).toNat)
  case atStart => exact ⟨0, by omega, rfl, rfl, Below.refl _ _⟩
  case round =>
    obtain ⟨k, hk, rfl, ha, hB⟩ := hrel
    by_cases hlt : k < n
    · have cx : wr.cell? ⟨b, off + k, none⟩ = some (.int .u8 (l[k]?.getD 0)) := (hB.cell (p := ⟨b, off + k, none⟩) (cell_lt (HC.out k (by omega)))).trans (HC.out k (by omega))
      have cy : wr.cell? ⟨b2, off2 + k, none⟩ = some (.int .u8 (p[k]?.getD 0)) := (hB.cell (p := ⟨b2, off2 + k, none⟩) (cell_lt (HC2.out k (by omega)))).trans (HC2.out k (by omega))
      have LD := lex_drop (l := l) (p := p) (k := k) (by rw [HL.out]; omega) (by rw [HP.out]; omega)
      rw [ha.out] at LD
      generalize l[k]?.getD 0 = x at *
      generalize p[k]?.getD 0 = y at *
      by_cases h : x = y
      · rw [if_pos h] at LD
        have E := hid LD.symm
        have t1 : (x != y) = false := by simp [h]
        have k1 : (0 : Int) ≤ (k : Int) := by omega
        have k2 : (k : Int) < (n : Int) := by omega
        have k3 : (k : Int) < (m : Int) := by omega
        clear LD h
        go_wp2_with fail
        go_quiet (fail)
        go_wp2
        go_roundw
        case rel => exact ⟨k + 1, by omega, by go_num, E.out, below_drewN hB _⟩
        case measure => simp [intOf]; omega
      · rw [if_neg h] at LD
        have E := hid LD.symm
        have t1 : (x != y) = true := by simp [h]
        have k1 : (0 : Int) ≤ (k : Int) := by omega
        have k2 : (k : Int) < (n : Int) := by omega
        have k3 : (k : Int) < (m : Int) := by omega
        clear LD h
        go_wp2_with fail
        go_quiet (fail)
        go_wp2_with fail
        go_quiet (fail)
        go_wp2
        go_ret
        exact ⟨retb E.out, by repeat (first | exact hB | refine below_drewN ?_ _)⟩
    · obtain rfl : k = n := by omega
      have E : Hid (false = lex l p) := by
        unfold Hid
        rw [← ha.out]
        exact (lex_end (.inl (List.drop_of_length_le (by rw [HL.out]; omega)))).symm
      go_wp2
      go_ret
      exact ⟨retb E.out, hB⟩
set_option maxHeartbeats 2000000 in
theorem ahead_gt (b off n cap b2 off2 m cap2 : Nat) (l p : List Int) (w : World) (hl : l.length = n) (hp : p.length = m) (hk0 : m < n) (hn : n ≤ 9223372036854775807) (hm : m ≤ 9223372036854775807)
    (hc : ∀ j, j < n → w.cell? ⟨b, off + j, none⟩ = some (.int .u8 (l[j]?.getD 0))) (hc2 : ∀ j, j < m → w.cell? ⟨b2, off2 + j, none⟩ = some (.int .u8 (p[j]?.getD 0))) :
    Calls Try.prog 31 #[.slice (some ⟨b, off, none⟩) n cap, .slice (some ⟨b2, off2, none⟩) m cap2] w fun e w' => e = .returned (.bool (lex l p)) ∧ Below w.heap.size w w' := by
  have HC := hid hc
  have HC2 := hid hc2
  have HL := hid hl
  have HP := hid hp
  clear hc hc2 hl hp
  go_enter Try.func31, Try.ntmps31
  go_wp2_with fail
  go_loopw [11] (fun i wr => ∃ k : Nat, k ≤ m ∧ i = .int .i64 k ∧ Hid (lex (l.drop k) (p.drop k) = lex l p) ∧ Below w.heap.size w wr) (fun i _ => m - (intOf i).toNat)
  case atStart => exact ⟨0, by omega, rfl, rfl, Below.refl _ _⟩
  case round =>
    obtain ⟨k, hk, rfl, ha, hB⟩ := hrel
    by_cases hlt : k < m
    · have cx : wr.cell? ⟨b, off + k, none⟩ = some (.int .u8 (l[k]?.getD 0)) := (hB.cell (p := ⟨b, off + k, none⟩) (cell_lt (HC.out k (by omega)))).trans (HC.out k (by omega))
      have cy : wr.cell? ⟨b2, off2 + k, none⟩ = some (.int .u8 (p[k]?.getD 0)) := (hB.cell (p := ⟨b2, off2 + k, none⟩) (cell_lt (HC2.out k (by omega)))).trans (HC2.out k (by omega))
      have LD := lex_drop (l := l) (p := p) (k := k) (by rw [HL.out]; omega) (by rw [HP.out]; omega)
      rw [ha.out] at LD
      generalize l[k]?.getD 0 = x at *
      generalize p[k]?.getD 0 = y at *
      by_cases h : x = y
      · rw [if_pos h] at LD
        have E := hid LD.symm
        have t1 : (x != y) = false := by simp [h]
        have k1 : (0 : Int) ≤ (k : Int) := by omega
        have k2 : (k : Int) < (n : Int) := by omega
        have k3 : (k : Int) < (m : Int) := by omega
        clear LD h
        go_wp2_with fail
        go_quiet (fail)
        go_wp2
        go_roundw
        case rel => exact ⟨k + 1, by omega, by go_num, E.out, below_drewN hB _⟩
        case measure => simp [intOf]; omega
      · rw [if_neg h] at LD
        have E := hid LD.symm
        have t1 : (x != y) = true := by simp [h]
        have k1 : (0 : Int) ≤ (k : Int) := by omega
        have k2 : (k : Int) < (n : Int) := by omega
        have k3 : (k : Int) < (m : Int) := by omega
        clear LD h
        go_wp2_with fail
        go_quiet (fail)
        go_wp2_with fail
        go_quiet (fail)
        go_wp2
        go_ret
        exact ⟨retb E.out, by repeat (first | exact hB | refine below_drewN ?_ _)⟩
    · obtain rfl : k = m := by omega
      have E : Hid (false = lex l p) := by
        unfold Hid
        rw [← ha.out]
        exact (lex_end (.inr (List.drop_of_length_le (by rw [HP.out]; omega)))).symm
      go_wp2
      go_ret
      exact ⟨retb E.out, hB⟩
theorem ahead_any (b off n cap b2 off2 m cap2 : Nat) (l p : List Int) (w : World) (h1 : HoldsB w (some ⟨b, off, none⟩) n cap l) (h2 : HoldsB w (some ⟨b2, off2, none⟩) m cap2 p) (hn : 0 < n) (hm : 0 < m) :
    Calls Try.prog 31 #[.slice (some ⟨b, off, none⟩) n cap, .slice (some ⟨b2, off2, none⟩) m cap2] w fun e w' => e = .returned (.bool (lex l p)) ∧ Below w.heap.size w w' := by
  obtain ⟨_, _, e, hc⟩ := h1.2.2.2.2.2.2 hn
  cases e
  obtain ⟨_, _, e, hc2⟩ := h2.2.2.2.2.2.2 hm
  cases e
  by_cases h : n ≤ m
  · exact ahead_le b off n cap b2 off2 m cap2 l p w h1.1 h2.1 h h1.2.1 h2.2.1 hc hc2
  · exact ahead_gt b off n cap b2 off2 m cap2 l p w h1.1 h2.1 (by omega) h1.2.1 h2.2.1 hc hc2
theorem ahead_num (g n cap g2 m cap2 : Nat) (x y : Int) (w : World) (c : Bool) (hc : decide (x < y) = c) (x0 : 0 ≤ x) (x1 : x ≤ 18446744073709551615) (y0 : 0 ≤ y) (y1 : y ≤ 18446744073709551615) (h1 : HoldsB w (some ⟨g, 0, none⟩) n cap (numB x)) (h2 : HoldsB w (some ⟨g2, 0, none⟩) m cap2 (numB y)) :
    Calls Try.prog 31 #[.slice (some ⟨g, 0, none⟩) n cap, .slice (some ⟨g2, 0, none⟩) m cap2] w fun e w' => e = .returned (.bool c) ∧ Below w.heap.size w w' := by
  have K := ahead_any g 0 n cap g2 0 m cap2 _ _ w h1 h2 (by have := h1.1; rw [numB_len] at this; omega) (by have := h2.1; rw [numB_len] at this; omega)
  rw [lex_numB x0 x1 y0 y1, hc] at K
  exact K

end Go.Proofs.Ytmdhcigkhapolab
