/-
  Contracts of strip: the weights, with the worlds that the calls leave written out.
-/
import Derived.Test.YtmdhcigkhapolabSL
namespace Go.Proofs.Ytmdhcigkhapolab
open Go.RowKit Go.Deep
set_option linter.unusedVariables false

def drewn (w : World) : Nat → World | 0 => w | n + 1 => (drewn w n).drew
/-- Two new arrays, and so many draws. -/
def Wd (w : World) (x y z t : Int) (n : Nat) (wr : World) : Prop := drewn ((w.alloc (.cells #[.int .i64 x, .int .i64 y] 59)).alloc (.cells #[.int .i64 z, .int .i64 t] 59)) n = wr
theorem two_alloc {w : World} {o o' : Obj} {a : Addr} {v : Value} (h : w.cell? a = some v) : ((w.alloc o).alloc o').cell? a = some v := keepc (below_alloc' _ o') (keepc (below_alloc' w o) h)

set_option maxHeartbeats 4000000 in
theorem weigh_x (a : Option Addr) (len cap : Nat) (l : List Int) (w : World) (hl : l.length = len) (hm : len ≤ 60000) (hbb : BB l) (hc : 0 < len → ∃ b off, a = some ⟨b, off, none⟩ ∧ ∀ j, j < len → w.cell? ⟨b, off + j, none⟩ = some (.int .u8 (l[j]?.getD 0))) :
    Calls Try.prog 41 #[.slice a len cap] w fun e w' => e = .returned (.agg #[.int .i64 (P1 l), .int .i64 (P2 l)]) ∧ (w.alloc (.cells #[.int .i64 (P1 l), .int .i64 (P2 l)] 59)).alloc (.cells #[.int .i64 (P1 l), .int .i64 (P2 l)] 59) = w' := by
  have HC := hid hc
  have HL := hid hl
  clear hc hl
  go_enter Try.func41, Try.ntmps41
  go_wp2_with fail
  go_loopw [9] (fun i wr => ∃ k : Nat, k ≤ len ∧ i = .int .i64 k ∧ (w.alloc (.cells #[.int .i64 0, .int .i64 0] 59)).alloc (.cells #[.int .i64 (W1 l k), .int .i64 (W2 l k)] 59) = wr) (fun i _ => len - (intOf i).toNat)
  case atStart => exact ⟨0, by omega, rfl, rfl⟩
  case round =>
    obtain ⟨k, hk, rfl, rfl⟩ := hrel
    have bd := W_bd l hbb k (by omega)
    obtain ⟨d0, d1, d2, d3⟩ := bd
    by_cases hlt : k < len
    · obtain ⟨b, off, rfl, hc⟩ := HC.out (by omega)
      have cx := hc k hlt
      have x := hbb.getD k
      have t := term_bd (k := k) x.1 x.2 (by omega)
      have U1 := hid (W1_succ l k)
      have U2 := hid (W2_succ l k)
      obtain ⟨x0, x1⟩ := x
      obtain ⟨t0, t1⟩ := t
      have HCC := hid hc
      clear hc HC
      generalize l[k]?.getD 0 = x at *
      generalize W1 l k = aa at *
      generalize W2 l k = cc at *
      have cx2 := two_alloc (o := .cells #[.int .i64 0, .int .i64 0] 59) (o' := .cells #[.int .i64 aa, .int .i64 cc] 59) cx
      go_wp2
      go_roundw
      case rel => exact ⟨k + 1, by omega, by go_num, by rw [U1.out, U2.out]⟩
      case measure => simp [intOf]; omega
    · obtain rfl : k = len := by omega
      have E1 : Hid (P1 l = W1 l k % 65521) := by unfold Hid P1; rw [HL.out]
      have E2 : Hid (P2 l = W2 l k % 65521) := by unfold Hid P2; rw [HL.out]
      generalize W1 l k = aa at *
      generalize W2 l k = cc at *
      go_wp2_with fail
      go_loopw [30] (fun i wr => ∃ j : Nat, j ≤ 2 ∧ i = .int .i64 j ∧ (w.alloc (.cells #[.int .i64 0, .int .i64 0] 59)).alloc (.cells #[.int .i64 (if j = 0 then aa else aa % 65521), .int .i64 (if j = 2 then cc % 65521 else cc)] 59) = wr) (fun i _ => 2 - (intOf i).toNat)
      case atStart => exact ⟨0, by omega, rfl, rfl⟩
      case round =>
        obtain ⟨j, hj, rfl, rfl⟩ := hrel
        obtain rfl | rfl | rfl : j = 0 ∨ j = 1 ∨ j = 2 := by omega
        · rw [if_pos (show (0 : Nat) = 0 from rfl), if_neg (show ¬ (0 : Nat) = 2 by omega)]
          go_wp2
          go_roundw
          case rel => exact ⟨1, by omega, by go_num, by simp⟩
          case measure => simp [intOf]
        · rw [if_neg (show ¬ (1 : Nat) = 0 by omega), if_neg (show ¬ (1 : Nat) = 2 by omega)]
          go_wp2
          go_roundw
          case rel => exact ⟨2, by omega, by go_num, by simp⟩
          case measure => simp [intOf]
        · rw [if_neg (show ¬ (2 : Nat) = 0 by omega), if_pos (show (2 : Nat) = 2 from rfl)]
          go_wp2
          exact bodyPost_ret (v := .agg #[.int .i64 (P1 l), .int .i64 (P2 l)]) (by simp [results, Try.results41, go_sem, E1.out, E2.out]) rfl ⟨rfl, by simp [go_sem, E1.out, E2.out]⟩

set_option maxHeartbeats 4000000 in
theorem rdw_x (b off cap : Nat) (p q r s : Int) (w : World) (h : BB [p, q, r, s]) (c0 : w.cell? ⟨b, off, none⟩ = some (.int .u8 p)) (c1 : w.cell? ⟨b, off + 1, none⟩ = some (.int .u8 q)) (c2 : w.cell? ⟨b, off + 2, none⟩ = some (.int .u8 r)) (c3 : w.cell? ⟨b, off + 3, none⟩ = some (.int .u8 s)) :
    Calls Try.prog 43 #[.slice (some ⟨b, off, none⟩) 4 cap] w fun e w' => e = .returned (.agg #[.int .i64 (p * 256 + q), .int .i64 (r * 256 + s)]) ∧ ((w.alloc (.cells #[.int .i64 (p * 256 + q), .int .i64 (r * 256 + s)] 59)).alloc (.cells #[.int .i64 (p * 256 + q), .int .i64 (r * 256 + s)] 59)).drew.drew.drew.drew = w' := by
  have hp := h p (by simp)
  have hq := h q (by simp)
  have hr := h r (by simp)
  have hs := h s (by simp)
  clear h
  obtain ⟨p0, p1⟩ := hp
  obtain ⟨q0, q1⟩ := hq
  obtain ⟨r0, r1⟩ := hr
  obtain ⟨s0, s1⟩ := hs
  have hlt := cell_lt c0
  simp only at hlt
  have O1 := or8i0 p0 p1
  have O2 := or8i p0 p1 q0 q1
  have O3 := or8i0 r0 r1
  have O4 := or8i r0 r1 s0 s1
  have D0 := hid (fun (x y z t : Int) => two_alloc (o := .cells #[.int .i64 x, .int .i64 y] 59) (o' := .cells #[.int .i64 z, .int .i64 t] 59) c0)
  have D1 := hid (fun (x y z t : Int) => two_alloc (o := .cells #[.int .i64 x, .int .i64 y] 59) (o' := .cells #[.int .i64 z, .int .i64 t] 59) c1)
  have D2 := hid (fun (x y z t : Int) => two_alloc (o := .cells #[.int .i64 x, .int .i64 y] 59) (o' := .cells #[.int .i64 z, .int .i64 t] 59) c2)
  have D3 := hid (fun (x y z t : Int) => two_alloc (o := .cells #[.int .i64 x, .int .i64 y] 59) (o' := .cells #[.int .i64 z, .int .i64 t] 59) c3)
  clear c0 c1 c2 c3
  go_enter Try.func43, Try.ntmps43
  go_wp2_with fail
  go_loopw [6] (fun i wr => ∃ k : Nat, k ≤ 2 ∧ i = .int .i64 k ∧ Wd w 0 0 (if k = 0 then 0 else p * 256 + q) (if k = 2 then r * 256 + s else 0) (if k = 0 then 0 else if k = 1 then 2 else 4) wr) (fun i _ => 2 - (intOf i).toNat)
  case atStart => exact ⟨0, by omega, rfl, rfl⟩
  case round =>
    obtain ⟨k, hk, rfl, hw⟩ := hrel
    obtain rfl | rfl | rfl : k = 0 ∨ k = 1 ∨ k = 2 := by omega
    · obtain rfl : ((w.alloc (.cells #[.int .i64 0, .int .i64 0] 59)).alloc (.cells #[.int .i64 (0), .int .i64 (0)] 59)) = wr := hw
      go_wp2_with fail
      go_loopw [9] (fun i wr => ∃ j : Nat, j ≤ 2 ∧ i = .int .i64 j ∧ Wd w 0 0 (if j = 0 then 0 else if j = 1 then p else p * 256 + q) 0 (j) wr) (fun i _ => 2 - (intOf i).toNat)
      case atStart => exact ⟨0, by omega, rfl, rfl⟩
      case round =>
        obtain ⟨j, hj, rfl, hw2⟩ := hrel
        obtain rfl | rfl | rfl : j = 0 ∨ j = 1 ∨ j = 2 := by omega
        · obtain rfl : ((w.alloc (.cells #[.int .i64 0, .int .i64 0] 59)).alloc (.cells #[.int .i64 (0), .int .i64 (0)] 59)) = wr := hw2
          have cx := D0.out 0 0 (0) (0)
          go_wp2_with fail
          go_region
          all_goals
            go_wp2
            go_roundw
            case rel => exact ⟨1, by omega, by go_num, by simp [Wd, drewn, go_sem]⟩
            case measure => simp [intOf]
        · obtain rfl : ((w.alloc (.cells #[.int .i64 0, .int .i64 0] 59)).alloc (.cells #[.int .i64 (p), .int .i64 (0)] 59)).drew = wr := hw2
          have cx := D1.out 0 0 (p) (0)
          go_wp2_with fail
          go_region
          all_goals
            go_wp2
            go_roundw
            case rel => exact ⟨2, by omega, by go_num, by simp [Wd, drewn, go_sem]⟩
            case measure => simp [intOf]
        · obtain rfl : ((w.alloc (.cells #[.int .i64 0, .int .i64 0] 59)).alloc (.cells #[.int .i64 (p * 256 + q), .int .i64 (0)] 59)).drew.drew = wr := hw2
          go_wp2
          go_roundw
          case rel => exact ⟨1, by omega, by go_num, rfl⟩
          case measure => simp [intOf]
    · obtain rfl : ((w.alloc (.cells #[.int .i64 0, .int .i64 0] 59)).alloc (.cells #[.int .i64 (p * 256 + q), .int .i64 (0)] 59)).drew.drew = wr := hw
      go_wp2_with fail
      go_loopw [9] (fun i wr => ∃ j : Nat, j ≤ 2 ∧ i = .int .i64 j ∧ Wd w 0 0 (p * 256 + q) (if j = 0 then 0 else if j = 1 then r else r * 256 + s) (2 + j) wr) (fun i _ => 2 - (intOf i).toNat)
      case atStart => exact ⟨0, by omega, rfl, rfl⟩
      case round =>
        obtain ⟨j, hj, rfl, hw2⟩ := hrel
        obtain rfl | rfl | rfl : j = 0 ∨ j = 1 ∨ j = 2 := by omega
        · obtain rfl : ((w.alloc (.cells #[.int .i64 0, .int .i64 0] 59)).alloc (.cells #[.int .i64 (p * 256 + q), .int .i64 (0)] 59)).drew.drew = wr := hw2
          have cx := D2.out 0 0 (p * 256 + q) (0)
          go_wp2_with fail
          go_region
          all_goals
            go_wp2
            go_roundw
            case rel => exact ⟨1, by omega, by go_num, by simp [Wd, drewn, go_sem]⟩
            case measure => simp [intOf]
        · obtain rfl : ((w.alloc (.cells #[.int .i64 0, .int .i64 0] 59)).alloc (.cells #[.int .i64 (p * 256 + q), .int .i64 (r)] 59)).drew.drew.drew = wr := hw2
          have cx := D3.out 0 0 (p * 256 + q) (r)
          go_wp2_with fail
          go_region
          all_goals
            go_wp2
            go_roundw
            case rel => exact ⟨2, by omega, by go_num, by simp [Wd, drewn, go_sem]⟩
            case measure => simp [intOf]
        · obtain rfl : ((w.alloc (.cells #[.int .i64 0, .int .i64 0] 59)).alloc (.cells #[.int .i64 (p * 256 + q), .int .i64 (r * 256 + s)] 59)).drew.drew.drew.drew = wr := hw2
          go_wp2
          go_roundw
          case rel => exact ⟨2, by omega, by go_num, rfl⟩
          case measure => simp [intOf]
    · obtain rfl : ((w.alloc (.cells #[.int .i64 0, .int .i64 0] 59)).alloc (.cells #[.int .i64 (p * 256 + q), .int .i64 (r * 256 + s)] 59)).drew.drew.drew.drew = wr := hw
      go_wp2
      exact bodyPost_ret (v := .agg #[.int .i64 (p * 256 + q), .int .i64 (r * 256 + s)]) (by simp [results, Try.results43, go_sem]) rfl ⟨rfl, by simp [go_sem]⟩

end Go.Proofs.Ytmdhcigkhapolab
