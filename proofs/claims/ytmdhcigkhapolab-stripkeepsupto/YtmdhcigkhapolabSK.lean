/-
  Contracts of strip: the weights that stand behind bytes; how much they are above the right ones.
-/
import Derived.Test.YtmdhcigkhapolabSJ
namespace Go.Proofs.Ytmdhcigkhapolab
open Go.RowKit Go.Deep
set_option linter.unusedVariables false

theorem or8i {v x : Int} (v0 : 0 ≤ v) (v1 : v ≤ 255) (x0 : 0 ≤ x) (x1 : x ≤ 255) : bits .or .i64 (v * 256) x = v * 256 + x := by
  obtain ⟨a, rfl⟩ := Int.eq_ofNat_of_zero_le v0
  obtain ⟨b, rfl⟩ := Int.eq_ofNat_of_zero_le x0
  have e : (a : Int) * 256 = ((a * 256 : Nat) : Int) := by omega
  have hx : a * 256 ||| b < 2 ^ 16 := Nat.or_lt_two_pow (by omega) (by omega)
  have h2 : a * 256 ||| b = a * 256 + b := nat_join 8 _ _ (by omega) (by omega)
  rw [e]
  show IntKind.i64.wrap ((BitVec.ofInt 64 ((a * 256 : Nat) : Int) ||| BitVec.ofInt 64 (b : Int)).toNat : Int) = _
  rw [BitVec.toNat_or, ofInt_u64 _ (by omega), ofInt_u64 b (by omega), h2, IntKind.wrap_i64]
  omega
theorem or8i0 {x : Int} (x0 : 0 ≤ x) (x1 : x ≤ 255) : bits .or .i64 0 x = x := by
  have := or8i (v := 0) (by omega) (by omega) x0 x1
  simpa using this

set_option maxHeartbeats 4000000 in
theorem rdw_any (b off cap : Nat) (p q r s : Int) (w : World) (h : BB [p, q, r, s]) (c0 : w.cell? ⟨b, off, none⟩ = some (.int .u8 p)) (c1 : w.cell? ⟨b, off + 1, none⟩ = some (.int .u8 q)) (c2 : w.cell? ⟨b, off + 2, none⟩ = some (.int .u8 r)) (c3 : w.cell? ⟨b, off + 3, none⟩ = some (.int .u8 s)) :
    Calls Try.prog 43 #[.slice (some ⟨b, off, none⟩) 4 cap] w fun e w' => e = .returned (.agg #[.int .i64 (p * 256 + q), .int .i64 (r * 256 + s)]) ∧ Below w.heap.size w w' := by
  have hp := h p (by simp)
  have hq := h q (by simp)
  have hr := h r (by simp)
  have hs := h s (by simp)
  clear h
  obtain ⟨p0, p1⟩ := hp
  obtain ⟨q0, q1⟩ := hq
  obtain ⟨r0, r1⟩ := hr
  obtain ⟨s0, s1⟩ := hs
  have hlt := cell_lt c0
  simp only at hlt
  have O1 := or8i0 p0 p1
  have O2 := or8i p0 p1 q0 q1
  have O3 := or8i0 r0 r1
  have O4 := or8i r0 r1 s0 s1
  have C0 := hid c0; have C1 := hid c1; have C2 := hid c2; have C3 := hid c3
  clear c0 c1 c2 c3
  go_enter Try.func43, Try.ntmps43
  go_wp2_with fail
  go_loopw [6] (fun i wr => ∃ k : Nat, k ≤ 2 ∧ i = .int .i64 k ∧ Arr wr w.heap.size 0 0 ∧ Arr wr (w.heap.size + 1) (if k = 0 then 0 else p * 256 + q) (if k = 2 then r * 256 + s else 0) ∧ Below w.heap.size w wr) (fun i _ => 2 - (intOf i).toNat)
  case atStart => exact ⟨0, by omega, rfl, by simp [Arr, go_sem], by simp [Arr, go_sem], (by repeat (first | exact Below.refl _ _ | assumption | refine Below.alloc ?_ (by simp <;> omega) _ | refine Below.setCell ?_ (by simp <;> omega) _ | refine Below.drew ?_ | refine below_drewN ?_ _))⟩
  case round =>
    obtain ⟨k, hk, rfl, ⟨e0, e1, e2, e3⟩, ⟨a0, a1, f0, f1⟩, hB⟩ := hrel
    obtain rfl | rfl | rfl : k = 0 ∨ k = 1 ∨ k = 2 := by omega
    · simp at a0 a1
      go_wp2_with fail
      go_loopw [9] (fun i wr => ∃ j : Nat, j ≤ 2 ∧ i = .int .i64 j ∧ Arr wr w.heap.size 0 0 ∧ Arr wr (w.heap.size + 1) (if j = 0 then 0 else if j = 1 then p else p * 256 + q) 0 ∧ Below w.heap.size w wr) (fun i _ => 2 - (intOf i).toNat)
      case atStart => exact ⟨0, by omega, rfl, ⟨e0, e1, e2, e3⟩, ⟨a0, a1, f0, f1⟩, hB⟩
      case round =>
        clear e0 e1 e2 e3 a0 a1 f0 f1 hB
        obtain ⟨j, hj, rfl, ⟨e0, e1, e2, e3⟩, ⟨a0, a1, f0, f1⟩, hB⟩ := hrel
        obtain rfl | rfl | rfl : j = 0 ∨ j = 1 ∨ j = 2 := by omega
        · simp at a0 a1
          have cx := (hB.cell (p := ⟨b, off, none⟩) (cell_lt C0.out)).trans C0.out
          go_wp2_with fail
          go_region
          all_goals
            go_wp2
            go_roundw
            case rel => exact ⟨1, by omega, by go_num, by simp [Arr, go_sem, e0, e1, e2, e3], by simp [Arr, go_sem, a0, a1, f0, f1], hB.drew.setCell (by simp <;> omega) _⟩
            case measure => simp [intOf]
        · simp at a0 a1
          have cx := (hB.cell (p := ⟨b, off + 1, none⟩) (cell_lt C1.out)).trans C1.out
          go_wp2_with fail
          go_region
          all_goals
            go_wp2
            go_roundw
            case rel => exact ⟨2, by omega, by go_num, by simp [Arr, go_sem, e0, e1, e2, e3], by simp [Arr, go_sem, a0, a1, f0, f1], hB.drew.setCell (by simp <;> omega) _⟩
            case measure => simp [intOf]
        · simp at a0 a1
          go_wp2
          go_roundw
          case rel => exact ⟨1, by omega, by go_num, ⟨e0, e1, e2, e3⟩, ⟨by simpa using a0, by simpa using a1, f0, f1⟩, hB⟩
          case measure => simp [intOf]
    · simp at a0 a1
      go_wp2_with fail
      go_loopw [9] (fun i wr => ∃ j : Nat, j ≤ 2 ∧ i = .int .i64 j ∧ Arr wr w.heap.size 0 0 ∧ Arr wr (w.heap.size + 1) (p * 256 + q) (if j = 0 then 0 else if j = 1 then r else r * 256 + s) ∧ Below w.heap.size w wr) (fun i _ => 2 - (intOf i).toNat)
      case atStart => exact ⟨0, by omega, rfl, ⟨e0, e1, e2, e3⟩, ⟨a0, a1, f0, f1⟩, hB⟩
      case round =>
        clear e0 e1 e2 e3 a0 a1 f0 f1 hB
        obtain ⟨j, hj, rfl, ⟨e0, e1, e2, e3⟩, ⟨a0, a1, f0, f1⟩, hB⟩ := hrel
        obtain rfl | rfl | rfl : j = 0 ∨ j = 1 ∨ j = 2 := by omega
        · simp at a0 a1
          have cx := (hB.cell (p := ⟨b, off + 2, none⟩) (cell_lt C2.out)).trans C2.out
          go_wp2_with fail
          go_region
          all_goals
            go_wp2
            go_roundw
            case rel => exact ⟨1, by omega, by go_num, by simp [Arr, go_sem, e0, e1, e2, e3], by simp [Arr, go_sem, a0, a1, f0, f1], hB.drew.setCell (by simp <;> omega) _⟩
            case measure => simp [intOf]
        · simp at a0 a1
          have cx := (hB.cell (p := ⟨b, off + 3, none⟩) (cell_lt C3.out)).trans C3.out
          go_wp2_with fail
          go_region
          all_goals
            go_wp2
            go_roundw
            case rel => exact ⟨2, by omega, by go_num, by simp [Arr, go_sem, e0, e1, e2, e3], by simp [Arr, go_sem, a0, a1, f0, f1], hB.drew.setCell (by simp <;> omega) _⟩
            case measure => simp [intOf]
        · simp at a0 a1
          go_wp2
          go_roundw
          case rel => exact ⟨2, by omega, by go_num, ⟨e0, e1, e2, e3⟩, ⟨by simpa using a0, by simpa using a1, f0, f1⟩, hB⟩
          case measure => simp [intOf]
    · simp at a0 a1
      go_wp2
      exact bodyPost_ret (v := .agg #[.int .i64 (p * 256 + q), .int .i64 (r * 256 + s)]) (by simp [results, Try.results43, go_sem, e0, e1]) rfl ⟨rfl, (hB.setCell (by simp <;> omega) _).setCell (by simp <;> omega) _⟩

set_option maxHeartbeats 4000000 in
theorem above_any (u v x y : Int) (w : World) (u0 : 0 ≤ u) (u1 : u < 65521) (v0 : 0 ≤ v) (v1 : v < 65521) (x0 : 0 ≤ x) (x1 : x < 65536) (y0 : 0 ≤ y) (y1 : y < 65536) :
    Calls Try.prog 45 #[.agg #[.int .i64 u, .int .i64 v], .agg #[.int .i64 x, .int .i64 y]] w fun e w' => e = .returned (.agg #[.int .i64 ((x - u + 65521) % 65521), .int .i64 ((y - v + 65521) % 65521)]) ∧ Below w.heap.size w w' := by
  go_enter Try.func45, Try.ntmps45
  go_wp2_with fail
  go_loopw [7] (fun i wr => ∃ k : Nat, k ≤ 2 ∧ i = .int .i64 k ∧ Arr wr w.heap.size u v ∧ Arr wr (w.heap.size + 1) x y ∧ Arr wr (w.heap.size + 1 + 1) 0 0 ∧ Arr wr (w.heap.size + 1 + 1 + 1) (if k = 0 then 0 else (x - u + 65521) % 65521) (if k = 2 then (y - v + 65521) % 65521 else 0) ∧ Below w.heap.size w wr) (fun i _ => 2 - (intOf i).toNat)
  case atStart => exact ⟨0, by omega, rfl, by simp [Arr, go_sem], by simp [Arr, go_sem], by simp [Arr, go_sem], by simp [Arr, go_sem], (by repeat (first | exact Below.refl _ _ | assumption | refine Below.alloc ?_ (by simp <;> omega) _ | refine Below.setCell ?_ (by simp <;> omega) _ | refine Below.drew ?_ | refine below_drewN ?_ _))⟩
  case round =>
    obtain ⟨k, hk, rfl, ⟨g0, g1, g2, g3⟩, ⟨d0, d1, d2, d3⟩, ⟨e0, e1, e2, e3⟩, ⟨a0, a1, f0, f1⟩, hB⟩ := hrel
    obtain rfl | rfl | rfl : k = 0 ∨ k = 1 ∨ k = 2 := by omega
    · simp at a0 a1
      go_wp2_with fail
      go_region
      all_goals
        go_wp2
        go_roundw
        case rel => exact ⟨1, by omega, by go_num, by simp [Arr, go_sem, g0, g1, g2, g3], by simp [Arr, go_sem, d0, d1, d2, d3], by simp [Arr, go_sem, e0, e1, e2, e3], by simp [Arr, go_sem, a0, a1, f0, f1], hB.drew.setCell (by simp <;> omega) _⟩
        case measure => simp [intOf]
    · simp at a0 a1
      go_wp2_with fail
      go_region
      all_goals
        go_wp2
        go_roundw
        case rel => exact ⟨2, by omega, by go_num, by simp [Arr, go_sem, g0, g1, g2, g3], by simp [Arr, go_sem, d0, d1, d2, d3], by simp [Arr, go_sem, e0, e1, e2, e3], by simp [Arr, go_sem, a0, a1, f0, f1], hB.drew.setCell (by simp <;> omega) _⟩
        case measure => simp [intOf]
    · simp at a0 a1
      go_wp2
      exact bodyPost_ret (v := .agg #[.int .i64 ((x - u + 65521) % 65521), .int .i64 ((y - v + 65521) % 65521)]) (by simp [results, Try.results45, go_sem, e0, e1]) rfl ⟨rfl, (hB.setCell (by simp <;> omega) _).setCell (by simp <;> omega) _⟩

end Go.Proofs.Ytmdhcigkhapolab
