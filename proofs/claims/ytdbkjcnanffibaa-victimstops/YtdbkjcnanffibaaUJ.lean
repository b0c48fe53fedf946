/-
  Contracts of victim: which of two leases is to end?
-/
import Derived.Test.YtdbkjcnanffibaaUI
import Derived.Test.YtdbkjcnanffibaaVG
import Derived.BigQuiet
import Derived.Deep.QuietTactic
import Derived.Deep.Cut
namespace Go.Proofs.Ytdbkjcnanffibaa
open Go.RowKit Go.Deep Go.Maps Go.Shelf
set_option linter.unusedVariables false
set_option linter.unusedSimpArgs false

/-- How the shares of two queues stand. -/
def ordV (c m x d k y p q : Int) : Int := if leok c m x d k y p q = true then lev c m x d k y p q else 0
theorem less_ord (c m x d k y p q : Int) : ∃ G, ∀ w : World, Calls Try.prog 55 #[.agg #[.int .i64 c, .int .i64 m], .int .i64 x, .agg #[.int .i64 d, .int .i64 k], .int .i64 y, .agg #[.int .i64 p, .int .i64 q]] w fun e w' => e = .returned (.tuple #[.int .i64 (ordV c m x d k y p q), .int .i64 G]) ∧ Below w.heap.size w w' := by
  unfold ordV
  cases h : leok c m x d k y p q
  · exact ⟨1, fun w => less_no c m x d k y p q h w⟩
  · exact ⟨0, fun w => less_yes c m x d k y p q h w⟩
theorem run_wt8 (a b c d e f g : Int) (w : World) : Sem.run Try.prog (Instr.field 53 (.agg #[.int .i64 a, .int .i64 b, .int .i64 c, .int .i64 d, .int .i64 e, .int .i64 f, .int .i64 g]) 2) w = .ok (.int .i64 c) w := by kernel_rfl
/-- The order of two queues' uses. -/
def ordQ (f : Int → Option Qu) (g : Int → Int × Int) (a b p q : Int) : Int := ordV (g a).1 (g a).2 ((f a).getD q0).wt (g b).1 (g b).2 ((f b).getD q0).wt p q
/-- Is the lease of the task s and the queue a to end rather than that of t and b? -/
def befB (f : Int → Option Qu) (g : Int → Int × Int) (s a t b p q : Int) : Bool := if a = b then decide (t < s) else decide (0 < ordQ f g a b p q) || (decide (ordQ f g a b p q = 0) && decide (a < b))

set_option maxRecDepth 100000 in
set_option maxHeartbeats 4000000 in
theorem ubefore_any {mq mu n m : Nat} {f : Int → Option Qu} {h : Int → Bool} {g : Int → Int × Int} (x1 x2 x3 x5 x6 x7 : Int) (sa : Option Addr) (sl sc : Nat) (x8 : Bool) (y1 y2 y3 y5 y6 y7 : Int) (ta : Option Addr) (tl tc : Nat) (y8 : Bool) (p1 p2 : Int) (w : World) (hQ : QMp w mq n f) (hU : UM w mu m h g) (hx : I64 x2) (hy : I64 y2) :
    Calls Try.prog 41 #[.agg #[.map (some mq), .map (some mu)], .agg #[.int .i64 x1, .int .i64 x2, .int .i64 x3, .slice sa sl sc, .int .i64 x5, .int .i64 x6, .int .i64 x7, .bool x8], .agg #[.int .i64 y1, .int .i64 y2, .int .i64 y3, .slice ta tl tc, .int .i64 y5, .int .i64 y6, .int .i64 y7, .bool y8], .agg #[.int .i64 p1, .int .i64 p2]] w fun e w' => e = .returned (.bool (befB f g x1 x2 y1 y2 p1 p2)) ∧ Below w.heap.size w w' := by
  by_cases e : x2 = y2
  · subst e
    have E : Hid (befB f g x1 x2 y1 x2 p1 p2 = decide (y1 < x1)) := by unfold Hid befB; rw [if_pos rfl]
    clear hQ hU
    go_enter Try.func41, Try.ntmps41
    go_wp2_with fail
    go_ret
    exact ⟨by rw [E.out]; rfl, (by repeat (first | exact Below.refl _ _ | assumption | refine Below.alloc ?_ (by simp <;> omega) _ | refine Below.setCell ?_ (by simp <;> omega) _ | refine Below.drew ?_ | refine below_drewN ?_ _))⟩
  · have te : (x2 == y2) = false := by simpa using e
    have E : Hid (befB f g x1 x2 y1 y2 p1 p2 = (decide (0 < ordQ f g x2 y2 p1 p2) || (decide (ordQ f g x2 y2 p1 p2 = 0) && decide (x2 < y2)))) := by unfold Hid befB; rw [if_neg e]
    rw [E.out]
    clear E e
    have LS : ∃ O G : Int, Hid (∀ w : World, Calls Try.prog 55 #[.agg #[.int .i64 (g x2).1, .int .i64 (g x2).2], .int .i64 ((f x2).getD q0).wt, .agg #[.int .i64 (g y2).1, .int .i64 (g y2).2], .int .i64 ((f y2).getD q0).wt, .agg #[.int .i64 p1, .int .i64 p2]] w fun e w' => e = .returned (.tuple #[.int .i64 O, .int .i64 G]) ∧ Below w.heap.size w w') ∧ ordQ f g x2 y2 p1 p2 = O := by
      obtain ⟨G, hG⟩ := less_ord (g x2).1 (g x2).2 ((f x2).getD q0).wt (g y2).1 (g y2).2 ((f y2).getD q0).wt p1 p2
      exact ⟨_, G, hG, rfl⟩
    obtain ⟨O, G, LS, hO⟩ := LS
    rw [hO]
    clear hO
    have BA : Hid (Below w.heap.size w ((((w.alloc (.cells #[.map (some mq), .map (some mu)] 64)).alloc (.cells #[.int .i64 x1, .int .i64 x2, .int .i64 x3, .slice sa sl sc, .int .i64 x5, .int .i64 x6, .int .i64 x7, .bool x8] 38)).alloc (.cells #[.int .i64 y1, .int .i64 y2, .int .i64 y3, .slice ta tl tc, .int .i64 y5, .int .i64 y6, .int .i64 y7, .bool y8] 38)).alloc (.cells #[.int .i64 p1, .int .i64 p2] 32))) := (((Below.refl _ w).alloc (Nat.le_refl _) _).alloc (by simp) _).alloc (by simp; omega) _ |>.alloc (by simp; omega) _
    have U0 : Hid (∀ N, UM (World.drewN ((((w.alloc (.cells #[.map (some mq), .map (some mu)] 64)).alloc (.cells #[.int .i64 x1, .int .i64 x2, .int .i64 x3, .slice sa sl sc, .int .i64 x5, .int .i64 x6, .int .i64 x7, .bool x8] 38)).alloc (.cells #[.int .i64 y1, .int .i64 y2, .int .i64 y3, .slice ta tl tc, .int .i64 y5, .int .i64 y6, .int .i64 y7, .bool y8] 38)).alloc (.cells #[.int .i64 p1, .int .i64 p2] 32)) N) mu m h g) := fun N => (hU.below BA.out).same rfl
    have Q0 : QMp ((((w.alloc (.cells #[.map (some mq), .map (some mu)] 64)).alloc (.cells #[.int .i64 x1, .int .i64 x2, .int .i64 x3, .slice sa sl sc, .int .i64 x5, .int .i64 x6, .int .i64 x7, .bool x8] 38)).alloc (.cells #[.int .i64 y1, .int .i64 y2, .int .i64 y3, .slice ta tl tc, .int .i64 y5, .int .i64 y6, .int .i64 y7, .bool y8] 38)).alloc (.cells #[.int .i64 p1, .int .i64 p2] 32)) mq n f := hQ.below BA.out
    obtain ⟨qx, hqx⟩ : ∃ q, (f x2).getD q0 = q := ⟨_, rfl⟩
    obtain ⟨qy, hqy⟩ : ∃ q, (f y2).getD q0 = q := ⟨_, rfl⟩
    have Q1 : ∀ N, QMp (World.drewN ((((w.alloc (.cells #[.map (some mq), .map (some mu)] 64)).alloc (.cells #[.int .i64 x1, .int .i64 x2, .int .i64 x3, .slice sa sl sc, .int .i64 x5, .int .i64 x6, .int .i64 x7, .bool x8] 38)).alloc (.cells #[.int .i64 y1, .int .i64 y2, .int .i64 y3, .slice ta tl tc, .int .i64 y5, .int .i64 y6, .int .i64 y7, .bool y8] 38)).alloc (.cells #[.int .i64 p1, .int .i64 p2] 32)) N) mq n f := fun N => Q0.same rfl
    have LQX := fun N => (Q1 N).look hx hqx
    have LQY := fun N => (Q1 N).look hy hqy
    have LUX := fun N => (U0.out N).look hx
    have LUY := fun N => (U0.out N).look hy
    rw [hqx, hqy] at LS
    have z0 : ((((w.alloc (.cells #[.map (some mq), .map (some mu)] 64)).alloc (.cells #[.int .i64 x1, .int .i64 x2, .int .i64 x3, .slice sa sl sc, .int .i64 x5, .int .i64 x6, .int .i64 x7, .bool x8] 38)).alloc (.cells #[.int .i64 y1, .int .i64 y2, .int .i64 y3, .slice ta tl tc, .int .i64 y5, .int .i64 y6, .int .i64 y7, .bool y8] 38)).alloc (.cells #[.int .i64 p1, .int .i64 p2] 32)).cell? ⟨w.heap.size, 0, none⟩ = some (.map (some mq)) := by simp [go_sem]
    have z1 : ((((w.alloc (.cells #[.map (some mq), .map (some mu)] 64)).alloc (.cells #[.int .i64 x1, .int .i64 x2, .int .i64 x3, .slice sa sl sc, .int .i64 x5, .int .i64 x6, .int .i64 x7, .bool x8] 38)).alloc (.cells #[.int .i64 y1, .int .i64 y2, .int .i64 y3, .slice ta tl tc, .int .i64 y5, .int .i64 y6, .int .i64 y7, .bool y8] 38)).alloc (.cells #[.int .i64 p1, .int .i64 p2] 32)).cell? ⟨w.heap.size, 1, none⟩ = some (.map (some mu)) := by simp [go_sem]
    have z2 : ((((w.alloc (.cells #[.map (some mq), .map (some mu)] 64)).alloc (.cells #[.int .i64 x1, .int .i64 x2, .int .i64 x3, .slice sa sl sc, .int .i64 x5, .int .i64 x6, .int .i64 x7, .bool x8] 38)).alloc (.cells #[.int .i64 y1, .int .i64 y2, .int .i64 y3, .slice ta tl tc, .int .i64 y5, .int .i64 y6, .int .i64 y7, .bool y8] 38)).alloc (.cells #[.int .i64 p1, .int .i64 p2] 32)).cell? ⟨w.heap.size + 1, 1, none⟩ = some (.int .i64 x2) := by simp [go_sem]
    have z3 : ((((w.alloc (.cells #[.map (some mq), .map (some mu)] 64)).alloc (.cells #[.int .i64 x1, .int .i64 x2, .int .i64 x3, .slice sa sl sc, .int .i64 x5, .int .i64 x6, .int .i64 x7, .bool x8] 38)).alloc (.cells #[.int .i64 y1, .int .i64 y2, .int .i64 y3, .slice ta tl tc, .int .i64 y5, .int .i64 y6, .int .i64 y7, .bool y8] 38)).alloc (.cells #[.int .i64 p1, .int .i64 p2] 32)).cell? ⟨w.heap.size + 1 + 1, 1, none⟩ = some (.int .i64 y2) := by simp [go_sem]
    have z4 : ((((w.alloc (.cells #[.map (some mq), .map (some mu)] 64)).alloc (.cells #[.int .i64 x1, .int .i64 x2, .int .i64 x3, .slice sa sl sc, .int .i64 x5, .int .i64 x6, .int .i64 x7, .bool x8] 38)).alloc (.cells #[.int .i64 y1, .int .i64 y2, .int .i64 y3, .slice ta tl tc, .int .i64 y5, .int .i64 y6, .int .i64 y7, .bool y8] 38)).alloc (.cells #[.int .i64 p1, .int .i64 p2] 32)).cell? ⟨w.heap.size + 1 + 1 + 1, 0, none⟩ = some (.int .i64 p1) := by simp [go_sem]
    have z5 : ((((w.alloc (.cells #[.map (some mq), .map (some mu)] 64)).alloc (.cells #[.int .i64 x1, .int .i64 x2, .int .i64 x3, .slice sa sl sc, .int .i64 x5, .int .i64 x6, .int .i64 x7, .bool x8] 38)).alloc (.cells #[.int .i64 y1, .int .i64 y2, .int .i64 y3, .slice ta tl tc, .int .i64 y5, .int .i64 y6, .int .i64 y7, .bool y8] 38)).alloc (.cells #[.int .i64 p1, .int .i64 p2] 32)).cell? ⟨w.heap.size + 1 + 1 + 1, 1, none⟩ = some (.int .i64 p2) := by simp [go_sem]
    clear hQ hU U0 Q0 Q1 hqx hqy
    obtain ⟨a1, a2, a3, a4, a5, a6, a7⟩ := qx
    obtain ⟨b1, b2, b3, b4, b5, b6, b7⟩ := qy
    generalize g x2 = gx at *
    generalize g y2 = gy at *
    obtain ⟨gx1, gx2⟩ := gx
    obtain ⟨gy1, gy2⟩ := gy
    simp only at LS LQX LQY LUX LUY
    have w1 := run_wt8
    go_enter Try.func41, Try.ntmps41
    go_upto_region 3 with fail
    generalize hW0 : ((((w.alloc (.cells #[.map (some mq), .map (some mu)] 64)).alloc (.cells #[.int .i64 x1, .int .i64 x2, .int .i64 x3, .slice sa sl sc, .int .i64 x5, .int .i64 x6, .int .i64 x7, .bool x8] 38)).alloc (.cells #[.int .i64 y1, .int .i64 y2, .int .i64 y3, .slice ta tl tc, .int .i64 y5, .int .i64 y6, .int .i64 y7, .bool y8] 38)).alloc (.cells #[.int .i64 p1, .int .i64 p2] 32)) = W0 at *
    clear hW0
    go_quiet (fail)
    have z0' : (W0.drewN nq).cell? ⟨w.heap.size, 1, none⟩ = some (.map (some mu)) := z1
    have z2' : (W0.drewN nq).cell? ⟨w.heap.size + 1, 1, none⟩ = some (.int .i64 x2) := z2
    have z3' : (W0.drewN nq).cell? ⟨w.heap.size + 1 + 1, 1, none⟩ = some (.int .i64 y2) := z3
    have z4' : (W0.drewN nq).cell? ⟨w.heap.size + 1 + 1 + 1, 0, none⟩ = some (.int .i64 p1) := z4
    have z5' : (W0.drewN nq).cell? ⟨w.heap.size + 1 + 1 + 1, 1, none⟩ = some (.int .i64 p2) := z5
    have BB := hid (below_drewN BA.out nq)
    have LUX' := LUX nq
    have LUY' := LUY nq
    clear LUX LUY LQX LQY z0 z1 z2 z3 z4 z5 BA
    generalize hW1 : W0.drewN nq = W1 at *
    clear hW1
    go_wp2_with fail
    refine (LS.out _).mono ?_
    rintro e y9 ⟨rfl, b9⟩
    have B9 := hid (BB.out.trans (b9.mono BB.out.size))
    replace z2' := keepc b9 z2'
    replace z3' := keepc b9 z3'
    clear b9 LUX' LUY' LS z0' z4' z5'
    rcases Int.lt_trichotomy O 0 with o1 | o1 | o1
    · have t1 : decide (0 < O) = false := by simp; omega
      have t2 : (O == 0) = false := by simp; omega
      have t3 : decide (O = 0) = false := by simp; omega
      go_wp2_with fail
      go_ret
      exact ⟨by rw [t1, t3]; rfl, B9.out⟩
    · subst o1
      go_wp2_with fail
      go_ret
      exact ⟨by simp, B9.out⟩
    · have t1 : decide (0 < O) = true := by simp; omega
      go_wp2_with fail
      go_ret
      exact ⟨by rw [t1]; rfl, B9.out⟩
end Go.Proofs.Ytdbkjcnanffibaa
