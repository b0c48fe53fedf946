/-
  Contracts of clock, and of the document's clock.
-/
import Derived.Test.YtmdhcigkhapolaaWK
namespace Go.Proofs.Ytmdhcigkhapolaa
open Go.RowKit
set_option linter.unusedVariables false

/-- Is a length within its range? a drift? -/
def okl (x : Int) : Bool := decide (0 ≤ x ∧ x ≤ 1099511627776)
def okd (d : Int) : Bool := decide (0 ≤ d ∧ d < 1000)
theorem okl_t {x : Int} (h : okl x = true) : 0 ≤ x ∧ x ≤ 1099511627776 := by simpa [okl] using h
theorem okd_t {x : Int} (h : okd x = true) : 0 ≤ x ∧ x < 1000 := by simpa [okd] using h

theorem drifts_any (d : Int) (w : World) :
    Calls Try.prog 49 #[.int .i64 d] w fun e w' => e = .returned (.bool (okd d)) ∧ w = w' := by
  by_cases h1 : 0 ≤ d
  · have t1 : decide (0 ≤ d) = true := by simp; omega
    have E : Hid (decide (d < 1000) = okd d) := by simp [Hid, okd, h1]
    go_enter Try.func49, Try.ntmps49
    go_wp2
    go_ret
    exact ⟨retb E.out, rfl⟩
  · have t1 : decide (0 ≤ d) = false := by simp; omega
    have E : Hid (false = okd d) := by simp [Hid, okd, h1]
    go_enter Try.func49, Try.ntmps49
    go_wp2
    go_ret
    exact ⟨retb E.out, rfl⟩

theorem rates_any (d : Int) (h1 : 0 ≤ d) (h2 : d < 1000) (w : World) :
    Calls Try.prog 50 #[.int .i64 d] w fun e w' => e = .returned (.tuple #[.int .i64 (1000 - d), .int .i64 (1000 + d)]) ∧ w = w' := by
  go_enter Try.func50, Try.ntmps50
  go_wp2
  go_ret2
  exact ⟨rfl, rfl⟩

set_option maxHeartbeats 1000000 in
theorem lengths_any (B cap len : Nat) (zs : List Int) (w : World) (hl : zs.length = len) (hm : len ≤ 1000) (hc : ∀ j, j < len → w.cell? ⟨B, j, none⟩ = some (.int .i64 (zs[j]?.getD 0))) :
    Calls Try.prog 48 #[.slice (some ⟨B, 0, none⟩) len cap] w fun e w' => e = .returned (.bool (zs.all okl)) ∧ w = w' := by
  have C := hid hc
  have HL := hid hl
  clear hc hl
  go_enter Try.func48, Try.ntmps48
  go_wp2_with fail
  go_loop [7] (fun i => ∃ k : Nat, k ≤ len ∧ i = .int .i64 k ∧ Hid ((zs.take k).all okl = true)) (fun i => len - (intOf i).toNat)
  case atStart => exact ⟨0, by omega, rfl, rfl⟩
  case round =>
    obtain ⟨k, hk, rfl, ha⟩ := hrel
    by_cases hlt : k < len
    · have hc := C.out k hlt
      have hd : okl (zs[k]?.getD 0) = false → zs.all okl = false := by
        intro h
        have hk' : k < zs.length := by rw [HL.out]; exact hlt
        rw [List.getElem?_eq_getElem hk'] at h
        exact List.all_eq_false.2 ⟨zs[k], List.getElem_mem _, by simpa using h⟩
      have hs : okl (zs[k]?.getD 0) = true → (zs.take (k + 1)).all okl = true := by
        intro h
        have hk' : k < zs.length := by rw [HL.out]; exact hlt
        rw [List.getElem?_eq_getElem hk'] at h
        rw [List.take_succ_eq_append_getElem hk', List.all_append, ha.out]
        simpa using h
      have HD := hid hd
      have HS := hid hs
      clear hd hs
      generalize zs[k]?.getD 0 = v at *
      by_cases g1 : v < 0
      · have t1 : decide (v < 0) = true := by simp; omega
        have E := hid (HD.out (by unfold okl; simp; omega))
        go_wp2
        go_ret
        exact ⟨retb E.out.symm, rfl⟩
      · have t1 : decide (v < 0) = false := by simp; omega
        by_cases g2 : 1099511627776 < v
        · have t2 : decide (1099511627776 < v) = true := by simp; omega
          have E := hid (HD.out (by unfold okl; simp; omega))
          go_wp2
          go_ret
          exact ⟨retb E.out.symm, rfl⟩
        · have t2 : decide (1099511627776 < v) = false := by simp; omega
          have E := hid (HS.out (by unfold okl; simp; omega))
          go_wp2
          go_round
          case rel => exact ⟨k + 1, by omega, by go_num, E.out⟩
          case measure => simp [intOf]; omega
    · have E : Hid (zs.all okl = true) := by rw [← List.take_of_length_le (show zs.length ≤ k by rw [HL.out]; omega)]; exact ha.out
      go_wp2
      go_ret
      exact ⟨retb E.out.symm, rfl⟩

end Go.Proofs.Ytmdhcigkhapolaa
