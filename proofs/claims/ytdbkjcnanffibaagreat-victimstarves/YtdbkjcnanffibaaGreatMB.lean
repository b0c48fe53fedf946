/-
  Contracts of victim: which of two leases is to end?
  Contracts of victim: the lease of which the end is felt least.
  Contracts of victim: Choose.
  Sums of a part of leases.
  What law08's first calls answer.
  The document's answers of victim: insert.
  The document's answers of victim: mathematics of insert and Uses.
  What a queue uses is what its children use together: lists.
  What a part of the leases uses.
  Which lease is the best: mathematics.
  The document's choice is the code's: mathematics.
  What a queue covers without one of its leases: mathematics.
  Law08's helpers: lists of uses compared, the place of a queue.
-/
import Derived.Test.YtdbkjcnanffibaaGreatMA
import Derived.Test.YtdbkjcnanffibaaGreatMV
import Derived.BigQuiet
import Derived.Deep.QuietTactic
import Derived.Deep.Cut
import Derived.Test.YtdbkjcnanffibaaGreatRM
import Derived.Test.YtdbkjcnanffibaaGreatRN
import Derived.Test.YtdbkjcnanffibaaGreatRC
import Derived.Test.YtdbkjcnanffibaaGreatQW
import Derived.Laws.StructEq
namespace Go.Proofs.YtdbkjcnanffibaaGreat
open Go.RowKit Go.Deep Go.Maps Go.Shelf
set_option linter.unusedVariables false
set_option linter.unusedSimpArgs false

/-- How the shares of two queues stand. -/
def ordV (c m x d k y p q : Int) : Int := if leok c m x d k y p q = true then lev c m x d k y p q else 0
theorem less_ord (c m x d k y p q : Int) : ∃ G, ∀ w : World, Calls Tryz.prog 64 #[.agg #[.int .i64 c, .int .i64 m], .int .i64 x, .agg #[.int .i64 d, .int .i64 k], .int .i64 y, .agg #[.int .i64 p, .int .i64 q]] w fun e w' => e = .returned (.tuple #[.int .i64 (ordV c m x d k y p q), .int .i64 G]) ∧ Below w.heap.size w w' := by
  unfold ordV
  cases h : leok c m x d k y p q
  · exact ⟨1, fun w => less_no c m x d k y p q h w⟩
  · exact ⟨0, fun w => less_yes c m x d k y p q h w⟩
theorem run_wt8 (a b c d e f g : Int) (w : World) : Sem.run Tryz.prog (Instr.field 38 (.agg #[.int .i64 a, .int .i64 b, .int .i64 c, .int .i64 d, .int .i64 e, .int .i64 f, .int .i64 g]) 2) w = .ok (.int .i64 c) w := by kernel_rfl
/-- The order of two queues' uses. -/
def ordQ (f : Int → Option Qu) (g : Int → Int × Int) (a b p q : Int) : Int := ordV (g a).1 (g a).2 ((f a).getD q0).wt (g b).1 (g b).2 ((f b).getD q0).wt p q
/-- Is the lease of the task s and the queue a to end rather than that of t and b? -/
def befB (f : Int → Option Qu) (g : Int → Int × Int) (s a t b p q : Int) : Bool := if a = b then decide (t < s) else decide (0 < ordQ f g a b p q) || (decide (ordQ f g a b p q = 0) && decide (a < b))

set_option maxRecDepth 100000 in
set_option maxHeartbeats 4000000 in
theorem ubefore_any {mq mu n m : Nat} {f : Int → Option Qu} {h : Int → Bool} {g : Int → Int × Int} (x1 x2 x3 x5 x6 x7 : Int) (sa : Option Addr) (sl sc : Nat) (x8 : Bool) (y1 y2 y3 y5 y6 y7 : Int) (ta : Option Addr) (tl tc : Nat) (y8 : Bool) (p1 p2 : Int) (w : World) (hQ : QMp w mq n f) (hU : UM w mu m h g) (hx : I64 x2) (hy : I64 y2) :
    Calls Tryz.prog 43 #[.agg #[.map (some mq), .map (some mu)], .agg #[.int .i64 x1, .int .i64 x2, .int .i64 x3, .slice sa sl sc, .int .i64 x5, .int .i64 x6, .int .i64 x7, .bool x8], .agg #[.int .i64 y1, .int .i64 y2, .int .i64 y3, .slice ta tl tc, .int .i64 y5, .int .i64 y6, .int .i64 y7, .bool y8], .agg #[.int .i64 p1, .int .i64 p2]] w fun e w' => e = .returned (.bool (befB f g x1 x2 y1 y2 p1 p2)) ∧ Below w.heap.size w w' := by
  by_cases e : x2 = y2
  · subst e
    have E : Hid (befB f g x1 x2 y1 x2 p1 p2 = decide (y1 < x1)) := by unfold Hid befB; rw [if_pos rfl]
    clear hQ hU
    go_enter Tryz.func43, Tryz.ntmps43
    go_wp2_with fail
    go_ret
    exact ⟨by rw [E.out]; rfl, (by repeat (first | exact Below.refl _ _ | assumption | refine Below.alloc ?_ (by simp <;> omega) _ | refine Below.setCell ?_ (by simp <;> omega) _ | refine Below.drew ?_ | refine below_drewN ?_ _))⟩
  · have te : (x2 == y2) = false := by simpa using e
    have E : Hid (befB f g x1 x2 y1 y2 p1 p2 = (decide (0 < ordQ f g x2 y2 p1 p2) || (decide (ordQ f g x2 y2 p1 p2 = 0) && decide (x2 < y2)))) := by unfold Hid befB; rw [if_neg e]
    rw [E.out]
    clear E e
    have LS : ∃ O G : Int, Hid (∀ w : World, Calls Tryz.prog 64 #[.agg #[.int .i64 (g x2).1, .int .i64 (g x2).2], .int .i64 ((f x2).getD q0).wt, .agg #[.int .i64 (g y2).1, .int .i64 (g y2).2], .int .i64 ((f y2).getD q0).wt, .agg #[.int .i64 p1, .int .i64 p2]] w fun e w' => e = .returned (.tuple #[.int .i64 O, .int .i64 G]) ∧ Below w.heap.size w w') ∧ ordQ f g x2 y2 p1 p2 = O := by
      obtain ⟨G, hG⟩ := less_ord (g x2).1 (g x2).2 ((f x2).getD q0).wt (g y2).1 (g y2).2 ((f y2).getD q0).wt p1 p2
      exact ⟨_, G, hG, rfl⟩
    obtain ⟨O, G, LS, hO⟩ := LS
    rw [hO]
    clear hO
    have BA : Hid (Below w.heap.size w ((((w.alloc (.cells #[.map (some mq), .map (some mu)] 49)).alloc (.cells #[.int .i64 x1, .int .i64 x2, .int .i64 x3, .slice sa sl sc, .int .i64 x5, .int .i64 x6, .int .i64 x7, .bool x8] 42)).alloc (.cells #[.int .i64 y1, .int .i64 y2, .int .i64 y3, .slice ta tl tc, .int .i64 y5, .int .i64 y6, .int .i64 y7, .bool y8] 42)).alloc (.cells #[.int .i64 p1, .int .i64 p2] 33))) := (((Below.refl _ w).alloc (Nat.le_refl _) _).alloc (by simp) _).alloc (by simp; omega) _ |>.alloc (by simp; omega) _
    have U0 : Hid (∀ N, UM (World.drewN ((((w.alloc (.cells #[.map (some mq), .map (some mu)] 49)).alloc (.cells #[.int .i64 x1, .int .i64 x2, .int .i64 x3, .slice sa sl sc, .int .i64 x5, .int .i64 x6, .int .i64 x7, .bool x8] 42)).alloc (.cells #[.int .i64 y1, .int .i64 y2, .int .i64 y3, .slice ta tl tc, .int .i64 y5, .int .i64 y6, .int .i64 y7, .bool y8] 42)).alloc (.cells #[.int .i64 p1, .int .i64 p2] 33)) N) mu m h g) := fun N => (hU.below BA.out).same rfl
    have Q0 : QMp ((((w.alloc (.cells #[.map (some mq), .map (some mu)] 49)).alloc (.cells #[.int .i64 x1, .int .i64 x2, .int .i64 x3, .slice sa sl sc, .int .i64 x5, .int .i64 x6, .int .i64 x7, .bool x8] 42)).alloc (.cells #[.int .i64 y1, .int .i64 y2, .int .i64 y3, .slice ta tl tc, .int .i64 y5, .int .i64 y6, .int .i64 y7, .bool y8] 42)).alloc (.cells #[.int .i64 p1, .int .i64 p2] 33)) mq n f := hQ.below BA.out
    obtain ⟨qx, hqx⟩ : ∃ q, (f x2).getD q0 = q := ⟨_, rfl⟩
    obtain ⟨qy, hqy⟩ : ∃ q, (f y2).getD q0 = q := ⟨_, rfl⟩
    have Q1 : ∀ N, QMp (World.drewN ((((w.alloc (.cells #[.map (some mq), .map (some mu)] 49)).alloc (.cells #[.int .i64 x1, .int .i64 x2, .int .i64 x3, .slice sa sl sc, .int .i64 x5, .int .i64 x6, .int .i64 x7, .bool x8] 42)).alloc (.cells #[.int .i64 y1, .int .i64 y2, .int .i64 y3, .slice ta tl tc, .int .i64 y5, .int .i64 y6, .int .i64 y7, .bool y8] 42)).alloc (.cells #[.int .i64 p1, .int .i64 p2] 33)) N) mq n f := fun N => Q0.same rfl
    have LQX := fun N => (Q1 N).look hx hqx
    have LQY := fun N => (Q1 N).look hy hqy
    have LUX := fun N => (U0.out N).look hx
    have LUY := fun N => (U0.out N).look hy
    rw [hqx, hqy] at LS
    have z0 : ((((w.alloc (.cells #[.map (some mq), .map (some mu)] 49)).alloc (.cells #[.int .i64 x1, .int .i64 x2, .int .i64 x3, .slice sa sl sc, .int .i64 x5, .int .i64 x6, .int .i64 x7, .bool x8] 42)).alloc (.cells #[.int .i64 y1, .int .i64 y2, .int .i64 y3, .slice ta tl tc, .int .i64 y5, .int .i64 y6, .int .i64 y7, .bool y8] 42)).alloc (.cells #[.int .i64 p1, .int .i64 p2] 33)).cell? ⟨w.heap.size, 0, none⟩ = some (.map (some mq)) := by simp [go_sem]
    have z1 : ((((w.alloc (.cells #[.map (some mq), .map (some mu)] 49)).alloc (.cells #[.int .i64 x1, .int .i64 x2, .int .i64 x3, .slice sa sl sc, .int .i64 x5, .int .i64 x6, .int .i64 x7, .bool x8] 42)).alloc (.cells #[.int .i64 y1, .int .i64 y2, .int .i64 y3, .slice ta tl tc, .int .i64 y5, .int .i64 y6, .int .i64 y7, .bool y8] 42)).alloc (.cells #[.int .i64 p1, .int .i64 p2] 33)).cell? ⟨w.heap.size, 1, none⟩ = some (.map (some mu)) := by simp [go_sem]
    have z2 : ((((w.alloc (.cells #[.map (some mq), .map (some mu)] 49)).alloc (.cells #[.int .i64 x1, .int .i64 x2, .int .i64 x3, .slice sa sl sc, .int .i64 x5, .int .i64 x6, .int .i64 x7, .bool x8] 42)).alloc (.cells #[.int .i64 y1, .int .i64 y2, .int .i64 y3, .slice ta tl tc, .int .i64 y5, .int .i64 y6, .int .i64 y7, .bool y8] 42)).alloc (.cells #[.int .i64 p1, .int .i64 p2] 33)).cell? ⟨w.heap.size + 1, 1, none⟩ = some (.int .i64 x2) := by simp [go_sem]
    have z3 : ((((w.alloc (.cells #[.map (some mq), .map (some mu)] 49)).alloc (.cells #[.int .i64 x1, .int .i64 x2, .int .i64 x3, .slice sa sl sc, .int .i64 x5, .int .i64 x6, .int .i64 x7, .bool x8] 42)).alloc (.cells #[.int .i64 y1, .int .i64 y2, .int .i64 y3, .slice ta tl tc, .int .i64 y5, .int .i64 y6, .int .i64 y7, .bool y8] 42)).alloc (.cells #[.int .i64 p1, .int .i64 p2] 33)).cell? ⟨w.heap.size + 1 + 1, 1, none⟩ = some (.int .i64 y2) := by simp [go_sem]
    have z4 : ((((w.alloc (.cells #[.map (some mq), .map (some mu)] 49)).alloc (.cells #[.int .i64 x1, .int .i64 x2, .int .i64 x3, .slice sa sl sc, .int .i64 x5, .int .i64 x6, .int .i64 x7, .bool x8] 42)).alloc (.cells #[.int .i64 y1, .int .i64 y2, .int .i64 y3, .slice ta tl tc, .int .i64 y5, .int .i64 y6, .int .i64 y7, .bool y8] 42)).alloc (.cells #[.int .i64 p1, .int .i64 p2] 33)).cell? ⟨w.heap.size + 1 + 1 + 1, 0, none⟩ = some (.int .i64 p1) := by simp [go_sem]
    have z5 : ((((w.alloc (.cells #[.map (some mq), .map (some mu)] 49)).alloc (.cells #[.int .i64 x1, .int .i64 x2, .int .i64 x3, .slice sa sl sc, .int .i64 x5, .int .i64 x6, .int .i64 x7, .bool x8] 42)).alloc (.cells #[.int .i64 y1, .int .i64 y2, .int .i64 y3, .slice ta tl tc, .int .i64 y5, .int .i64 y6, .int .i64 y7, .bool y8] 42)).alloc (.cells #[.int .i64 p1, .int .i64 p2] 33)).cell? ⟨w.heap.size + 1 + 1 + 1, 1, none⟩ = some (.int .i64 p2) := by simp [go_sem]
    clear hQ hU U0 Q0 Q1 hqx hqy
    obtain ⟨a1, a2, a3, a4, a5, a6, a7⟩ := qx
    obtain ⟨b1, b2, b3, b4, b5, b6, b7⟩ := qy
    generalize g x2 = gx at *
    generalize g y2 = gy at *
    obtain ⟨gx1, gx2⟩ := gx
    obtain ⟨gy1, gy2⟩ := gy
    simp only at LS LQX LQY LUX LUY
    have w1 := run_wt8
    go_enter Tryz.func43, Tryz.ntmps43
    go_upto_region 3 with fail
    generalize hW0 : ((((w.alloc (.cells #[.map (some mq), .map (some mu)] 49)).alloc (.cells #[.int .i64 x1, .int .i64 x2, .int .i64 x3, .slice sa sl sc, .int .i64 x5, .int .i64 x6, .int .i64 x7, .bool x8] 42)).alloc (.cells #[.int .i64 y1, .int .i64 y2, .int .i64 y3, .slice ta tl tc, .int .i64 y5, .int .i64 y6, .int .i64 y7, .bool y8] 42)).alloc (.cells #[.int .i64 p1, .int .i64 p2] 33)) = W0 at *
    clear hW0
    go_quiet (fail)
    have z0' : (W0.drewN nq).cell? ⟨w.heap.size, 1, none⟩ = some (.map (some mu)) := z1
    have z2' : (W0.drewN nq).cell? ⟨w.heap.size + 1, 1, none⟩ = some (.int .i64 x2) := z2
    have z3' : (W0.drewN nq).cell? ⟨w.heap.size + 1 + 1, 1, none⟩ = some (.int .i64 y2) := z3
    have z4' : (W0.drewN nq).cell? ⟨w.heap.size + 1 + 1 + 1, 0, none⟩ = some (.int .i64 p1) := z4
    have z5' : (W0.drewN nq).cell? ⟨w.heap.size + 1 + 1 + 1, 1, none⟩ = some (.int .i64 p2) := z5
    have BB := hid (below_drewN BA.out nq)
    have LUX' := LUX nq
    have LUY' := LUY nq
    clear LUX LUY LQX LQY z0 z1 z2 z3 z4 z5 BA
    generalize hW1 : W0.drewN nq = W1 at *
    clear hW1
    go_wp2_with fail
    refine (LS.out _).mono ?_
    rintro e y9 ⟨rfl, b9⟩
    have B9 := hid (BB.out.trans (b9.mono BB.out.size))
    replace z2' := keepc b9 z2'
    replace z3' := keepc b9 z3'
    clear b9 LUX' LUY' LS z0' z4' z5'
    rcases Int.lt_trichotomy O 0 with o1 | o1 | o1
    · have t1 : decide (0 < O) = false := by simp; omega
      have t2 : (O == 0) = false := by simp; omega
      have t3 : decide (O = 0) = false := by simp; omega
      go_wp2_with fail
      go_ret
      exact ⟨by rw [t1, t3]; rfl, B9.out⟩
    · subst o1
      go_wp2_with fail
      go_ret
      exact ⟨by simp, B9.out⟩
    · have t1 : decide (0 < O) = true := by simp; omega
      go_wp2_with fail
      go_ret
      exact ⟨by rw [t1]; rfl, B9.out⟩
end Go.Proofs.YtdbkjcnanffibaaGreat

namespace Go.Proofs.YtdbkjcnanffibaaGreat
open Go.RowKit Go.Deep Go.Maps Go.Shelf
set_option linter.unusedVariables false
set_option linter.unusedSimpArgs false

/-- The best of the first k leases. -/
def greT (f : Int → Option Qu) (g : Int → Int × Int) (p q : Int) (l : List Le) : Nat → Option Le
  | 0 => none
  | k + 1 => if mayB f g (la l k).qu ((la l k).sl : Int) (la l k).me = true then (match greT f g p q l k with
    | none => some (la l k)
    | some b => if befB f g (la l k).ta (la l k).qu b.ta b.qu p q = true then some (la l k) else some b) else greT f g p q l k
/-- A lease's cells, that may be written. -/
def FreeL (w : World) (b : Nat) (x : Le) : Prop := (w.cell? ⟨b, 0, none⟩ = some (.int .i64 x.ta) ∧ w.cell? ⟨b, 1, none⟩ = some (.int .i64 x.qu) ∧ w.cell? ⟨b, 2, none⟩ = some (.int .i64 x.no) ∧ w.cell? ⟨b, 3, none⟩ = some (.slice x.sa x.sl x.sc) ∧ w.cell? ⟨b, 4, none⟩ = some (.int .i64 x.me) ∧ w.cell? ⟨b, 5, none⟩ = some (.int .i64 x.si) ∧ w.cell? ⟨b, 6, none⟩ = some (.int .i64 x.un) ∧ w.cell? ⟨b, 7, none⟩ = some (.bool x.st)) ∧ w.frozen? ⟨b, 0, none⟩ = false ∧ w.frozen? ⟨b, 1, none⟩ = false ∧ w.frozen? ⟨b, 2, none⟩ = false ∧ w.frozen? ⟨b, 3, none⟩ = false ∧ w.frozen? ⟨b, 4, none⟩ = false ∧ w.frozen? ⟨b, 5, none⟩ = false ∧ w.frozen? ⟨b, 6, none⟩ = false ∧ w.frozen? ⟨b, 7, none⟩ = false
def st8 (w : World) (b : Nat) (x : Le) : World := ((((((((w.setCell ⟨b, 0, none⟩ (.int .i64 x.ta)).setCell ⟨b, 1, none⟩ (.int .i64 x.qu)).setCell ⟨b, 2, none⟩ (.int .i64 x.no)).setCell ⟨b, 3, none⟩ (.slice x.sa x.sl x.sc)).setCell ⟨b, 4, none⟩ (.int .i64 x.me)).setCell ⟨b, 5, none⟩ (.int .i64 x.si)).setCell ⟨b, 6, none⟩ (.int .i64 x.un)).setCell ⟨b, 7, none⟩ (.bool x.st))
theorem FreeL.below {w w' : World} {b : Nat} {x : Le} (h : FreeL w b x) (hb : Below w.heap.size w w') : FreeL w' b x := by
  obtain ⟨⟨c0, c1, c2, c3, c4, c5, c6, c7⟩, f0, f1, f2, f3, f4, f5, f6, f7⟩ := h
  exact ⟨⟨keepc hb c0, keepc hb c1, keepc hb c2, keepc hb c3, keepc hb c4, keepc hb c5, keepc hb c6, keepc hb c7⟩, keepf hb c0 f0, keepf hb c1 f1, keepf hb c2 f2, keepf hb c3 f3, keepf hb c4 f4, keepf hb c5 f5, keepf hb c6 f6, keepf hb c7 f7⟩
set_option maxHeartbeats 2000000 in
theorem FreeL.set {w : World} {b : Nat} {x y : Le} (h : FreeL w b x) : FreeL (st8 w b y) b y := by
  obtain ⟨⟨c0, c1, c2, c3, c4, c5, c6, c7⟩, f0, f1, f2, f3, f4, f5, f6, f7⟩ := h
  unfold st8
  exact ⟨by simp [go_sem, c0, c1, c2, c3, c4, c5, c6, c7, f0, f1, f2, f3, f4, f5, f6, f7], by simp [go_sem, c0, c1, c2, c3, c4, c5, c6, c7, f0, f1, f2, f3, f4, f5, f6, f7]⟩
theorem st8_below {N : Nat} {w0 w : World} {b : Nat} {y : Le} (h : Below N w0 w) (hb : N ≤ b) : Below N w0 (st8 w b y) := by
  unfold st8
  exact (((((((h.setCell hb _).setCell hb _).setCell hb _).setCell hb _).setCell hb _).setCell hb _).setCell hb _).setCell hb _

theorem greT_mem {f : Int → Option Qu} {g : Int → Int × Int} {p q : Int} {l : List Le} {b : Le} : ∀ {k : Nat}, k ≤ l.length → greT f g p q l k = some b → b ∈ l := by
  intro k
  induction k with
  | zero => intro _ h; cases h
  | succ k ih =>
    intro hk h
    unfold greT at h
    split at h
    · split at h
      · cases h; exact la_mem (by omega)
      · rename_i e
        split at h
        · cases h; exact la_mem (by omega)
        · cases h; exact ih (by omega) e
    · exact ih (by omega) h

set_option maxRecDepth 100000 in
set_option maxHeartbeats 4000000 in
theorem greatest_any {mq mu n m : Nat} {f : Int → Option Qu} {h : Int → Bool} {g : Int → Int × Int} (p1 p2 : Int) (a : Option Addr) (len cap : Nat) (l : List Le) (w : World) (hl : HoldsL w a len cap l) (hok : ∀ x ∈ l, x.okB) (hQ : QMp w mq n f) (hU : UM w mu m h g) :
    Calls Tryz.prog 25 #[.agg #[.map (some mq), .map (some mu)], .slice a len cap, .agg #[.int .i64 p1, .int .i64 p2]] w fun e w' => e = .returned (.tuple #[.agg (((greT f g p1 p2 l l.length).getD le0).cs).toArray, .bool (greT f g p1 p2 l l.length).isSome]) ∧ Below w.heap.size w w' := by
  have HQ := hid hl
  have HL := hid hl.1.1
  have HO := hid hok
  have HQM := hid hQ
  have HUM := hid hU
  have hcap := hl.1.2.1
  have hcm := hl.1.2.2.1
  clear hl hok hQ hU
  have BA : Hid (Below w.heap.size w (((w.alloc (.cells #[.map (some mq), .map (some mu)] 49)).alloc (.cells #[.int .i64 p1, .int .i64 p2] 33)).alloc (.cells #[.int .i64 0, .int .i64 0, .int .i64 0, .slice none 0 0, .int .i64 0, .int .i64 0, .int .i64 0, .bool false] 42))) := ((Below.refl _ w).alloc (Nat.le_refl _) _).alloc (by simp) _ |>.alloc (by simp; omega) _
  have z0 : (((w.alloc (.cells #[.map (some mq), .map (some mu)] 49)).alloc (.cells #[.int .i64 p1, .int .i64 p2] 33)).alloc (.cells #[.int .i64 0, .int .i64 0, .int .i64 0, .slice none 0 0, .int .i64 0, .int .i64 0, .int .i64 0, .bool false] 42)).cell? ⟨w.heap.size, 0, none⟩ = some (.map (some mq)) := by simp [go_sem]
  have z1 : (((w.alloc (.cells #[.map (some mq), .map (some mu)] 49)).alloc (.cells #[.int .i64 p1, .int .i64 p2] 33)).alloc (.cells #[.int .i64 0, .int .i64 0, .int .i64 0, .slice none 0 0, .int .i64 0, .int .i64 0, .int .i64 0, .bool false] 42)).cell? ⟨w.heap.size, 1, none⟩ = some (.map (some mu)) := by simp [go_sem]
  have t0 : (((w.alloc (.cells #[.map (some mq), .map (some mu)] 49)).alloc (.cells #[.int .i64 p1, .int .i64 p2] 33)).alloc (.cells #[.int .i64 0, .int .i64 0, .int .i64 0, .slice none 0 0, .int .i64 0, .int .i64 0, .int .i64 0, .bool false] 42)).cell? ⟨w.heap.size + 1, 0, none⟩ = some (.int .i64 p1) := by simp [go_sem]
  have t1 : (((w.alloc (.cells #[.map (some mq), .map (some mu)] 49)).alloc (.cells #[.int .i64 p1, .int .i64 p2] 33)).alloc (.cells #[.int .i64 0, .int .i64 0, .int .i64 0, .slice none 0 0, .int .i64 0, .int .i64 0, .int .i64 0, .bool false] 42)).cell? ⟨w.heap.size + 1, 1, none⟩ = some (.int .i64 p2) := by simp [go_sem]
  have RL : FreeL (((w.alloc (.cells #[.map (some mq), .map (some mu)] 49)).alloc (.cells #[.int .i64 p1, .int .i64 p2] 33)).alloc (.cells #[.int .i64 0, .int .i64 0, .int .i64 0, .slice none 0 0, .int .i64 0, .int .i64 0, .int .i64 0, .bool false] 42)) (w.heap.size + 1 + 1) le0 := ⟨⟨by simp [go_sem, le0], by simp [go_sem, le0], by simp [go_sem, le0], by simp [go_sem, le0], by simp [go_sem, le0], by simp [go_sem, le0], by simp [go_sem, le0], by simp [go_sem, le0]⟩, by simp [go_sem], by simp [go_sem], by simp [go_sem], by simp [go_sem], by simp [go_sem], by simp [go_sem], by simp [go_sem], by simp [go_sem]⟩
  go_enter Tryz.func25, Tryz.ntmps25
  go_wp2_with fail
  generalize hW3 : (((w.alloc (.cells #[.map (some mq), .map (some mu)] 49)).alloc (.cells #[.int .i64 p1, .int .i64 p2] 33)).alloc (.cells #[.int .i64 0, .int .i64 0, .int .i64 0, .slice none 0 0, .int .i64 0, .int .i64 0, .int .i64 0, .bool false] 42)) = X3 at *
  clear hW3
  have ZB : FreeL (X3.alloc (.cells #[.int .i64 0, .int .i64 0, .int .i64 0, .slice none 0 0, .int .i64 0, .int .i64 0, .int .i64 0, .bool false] 42)) X3.heap.size le0 := ⟨⟨by simp [go_sem, le0], by simp [go_sem, le0], by simp [go_sem, le0], by simp [go_sem, le0], by simp [go_sem, le0], by simp [go_sem, le0], by simp [go_sem, le0], by simp [go_sem, le0]⟩, by simp [go_sem], by simp [go_sem], by simp [go_sem], by simp [go_sem], by simp [go_sem], by simp [go_sem], by simp [go_sem], by simp [go_sem]⟩
  have HZB := hid ZB
  have HRL := hid RL
  have HT := hid (And.intro z0 (And.intro z1 (And.intro t0 t1)))
  have BZ := hid ((Below.refl X3.heap.size X3).alloc (Nat.le_refl _) (.cells #[.int .i64 0, .int .i64 0, .int .i64 0, .slice none 0 0, .int .i64 0, .int .i64 0, .int .i64 0, .bool false] 42))
  have UY := hid (fun (x : Le) (hx : x ∈ l) W (hW : Below X3.heap.size X3 W) => umay_any (f := f) x.ta x.qu x.no x.me x.si x.un x.sa x.sl x.sc x.st W ((HQM.out.below BA.out).below hW) ((HUM.out.below BA.out).below hW) (HO.out x hx).1)
  have UB_ := hid (fun (x : Le) (hx : x ∈ l) (y : Le) (hy : I64 y.qu) W (hW : Below X3.heap.size X3 W) => ubefore_any (f := f) x.ta x.qu x.no x.me x.si x.un x.sa x.sl x.sc x.st y.ta y.qu y.no y.me y.si y.un y.sa y.sl y.sc y.st p1 p2 W ((HQM.out.below BA.out).below hW) ((HUM.out.below BA.out).below hW) (HO.out x hx).1 hy)
  clear z0 z1 t0 t1 RL ZB
  go_wp2_with fail
  go_step3
  go_wp2_with fail
  go_step3
  go_wp2_with fail
  go_loopw [9, 14] (fun fd i wr => ∃ k : Nat, k ≤ len ∧ i = .int .i64 (k : Int) ∧ fd = .bool (greT f g p1 p2 l k).isSome ∧ Hid (FreeL wr X3.heap.size ((greT f g p1 p2 l k).getD le0)) ∧ Hid (Below X3.heap.size X3 wr)) (fun fd i _ => len - (intOf i).toNat)
  case atStart => exact ⟨0, by omega, rfl, rfl, HZB, BZ⟩
  case round =>
    obtain ⟨k, hk, rfl, rfl, hF, hB⟩ := hrel
    clear HZB BZ
    obtain ⟨z0, z1, t0, t1⟩ := HT.out
    replace z0 := keepc hB.out z0
    replace z1 := keepc hB.out z1
    replace t0 := keepc hB.out t0
    replace t1 := keepc hB.out t1
    by_cases hlt : k < len
    · have hlt' : k < l.length := by rw [HL.out]; exact hlt
      obtain ⟨b, off, rfl, hbl, Rw⟩ := HQ.out.1.rowL (by omega)
      obtain ⟨d1, d2, d3, d4, d5, d6, d7, d8⟩ := Rw k hlt
      have c1 := keepc hB.out (keepc BA.out d1)
      have c2 := keepc hB.out (keepc BA.out d2)
      have c3 := keepc hB.out (keepc BA.out d3)
      have c4 := keepc hB.out (keepc BA.out d4)
      have c5 := keepc hB.out (keepc BA.out d5)
      have c6 := keepc hB.out (keepc BA.out d6)
      have c7 := keepc hB.out (keepc BA.out d7)
      have c8 := keepc hB.out (keepc BA.out d8)
      have ka : (0 : Int) ≤ (k : Int) := by omega
      have kb : (k : Int) < (len : Int) := by omega
      have UX := hid (UY.out (la l k) (la_mem hlt'))
      have BX := hid (UB_.out (la l k) (la_mem hlt'))
      have NX : Hid (greT f g p1 p2 l (k + 1) = if mayB f g (la l k).qu ((la l k).sl : Int) (la l k).me = true then (match greT f g p1 p2 l k with | none => some (la l k) | some b => if befB f g (la l k).ta (la l k).qu b.ta b.qu p1 p2 = true then some (la l k) else some b) else greT f g p1 p2 l k) := rfl
      clear d1 d2 d3 d4 d5 d6 d7 d8 Rw
      generalize la l k = x at *
      obtain ⟨x1, x2, x3, sa, sl, sc, x5, x6, x7, x8, co⟩ := x
      simp only at c1 c2 c3 c4 c5 c6 c7 c8 UX BX NX
      have BV := hid (hB.out.alloc hB.out.size (.cells #[.int .i64 x1, .int .i64 x2, .int .i64 x3, .slice sa sl sc, .int .i64 x5, .int .i64 x6, .int .i64 x7, .bool x8] 42))
      have FV := hid (hF.out.below ((Below.refl wr.heap.size wr).alloc (Nat.le_refl _) (.cells #[.int .i64 x1, .int .i64 x2, .int .i64 x3, .slice sa sl sc, .int .i64 x5, .int .i64 x6, .int .i64 x7, .bool x8] 42)))
      have kz0 := keepc ((Below.refl wr.heap.size wr).alloc (Nat.le_refl _) (.cells #[.int .i64 x1, .int .i64 x2, .int .i64 x3, .slice sa sl sc, .int .i64 x5, .int .i64 x6, .int .i64 x7, .bool x8] 42)) z0
      have kz1 := keepc ((Below.refl wr.heap.size wr).alloc (Nat.le_refl _) (.cells #[.int .i64 x1, .int .i64 x2, .int .i64 x3, .slice sa sl sc, .int .i64 x5, .int .i64 x6, .int .i64 x7, .bool x8] 42)) z1
      cases hm : mayB f g x2 (sl : Int) x5
      · have NN : Hid (greT f g p1 p2 l (k + 1) = greT f g p1 p2 l k) := by unfold Hid; rw [NX.out, hm]; rfl
        rw [hm] at UX
        clear NX hm
        go_wp2_with fail
        refine (UX.out _ BV.out).mono ?_
        rintro e w5 ⟨rfl, b5⟩
        have B5 := hid (BV.out.trans (b5.mono BV.out.size))
        have F5 := hid (FV.out.below b5)
        clear b5
        go_wp2_with fail
        refine ⟨⟨k + 1, by omega, by go_num, by rw [NN.out], by unfold Hid; rw [NN.out]; exact F5.out, B5⟩, ?_⟩
        simp [intOf]; omega
      · rw [hm] at UX
        have LT : Hid (greT f g p1 p2 l (k + 1) = (match greT f g p1 p2 l k with | none => some ⟨x1, x2, x3, sa, sl, sc, x5, x6, x7, x8, co⟩ | some b => if befB f g x1 x2 b.ta b.qu p1 p2 = true then some ⟨x1, x2, x3, sa, sl, sc, x5, x6, x7, x8, co⟩ else some b)) := by unfold Hid; rw [NX.out, hm]; rfl
        have GM : Hid (∀ b, greT f g p1 p2 l k = some b → I64 b.qu) := fun b hb => (HO.out b (greT_mem (by omega) hb)).1
        clear NX hm
        generalize greT f g p1 p2 l k = o at *
        have kt0 := keepc ((Below.refl wr.heap.size wr).alloc (Nat.le_refl _) (.cells #[.int .i64 x1, .int .i64 x2, .int .i64 x3, .slice sa sl sc, .int .i64 x5, .int .i64 x6, .int .i64 x7, .bool x8] 42)) t0
        have kt1 := keepc ((Below.refl wr.heap.size wr).alloc (Nat.le_refl _) (.cells #[.int .i64 x1, .int .i64 x2, .int .i64 x3, .slice sa sl sc, .int .i64 x5, .int .i64 x6, .int .i64 x7, .bool x8] 42)) t1
        rcases o with _ | y
        · have NN : Hid (greT f g p1 p2 l (k + 1) = some ⟨x1, x2, x3, sa, sl, sc, x5, x6, x7, x8, co⟩) := LT.out
          clear GM LT
          go_wp2_with fail
          refine (UX.out _ BV.out).mono ?_
          rintro e w5 ⟨rfl, b5⟩
          have B5 := hid (BV.out.trans (b5.mono BV.out.size))
          have F5 := hid (FV.out.below b5)
          have m0 := keepc b5 (show (wr.alloc (.cells #[.int .i64 x1, .int .i64 x2, .int .i64 x3, .slice sa sl sc, .int .i64 x5, .int .i64 x6, .int .i64 x7, .bool x8] 42)).cell? ⟨wr.heap.size, 0, none⟩ = some (.int .i64 x1) by simp [go_sem])
          have m1 := keepc b5 (show (wr.alloc (.cells #[.int .i64 x1, .int .i64 x2, .int .i64 x3, .slice sa sl sc, .int .i64 x5, .int .i64 x6, .int .i64 x7, .bool x8] 42)).cell? ⟨wr.heap.size, 1, none⟩ = some (.int .i64 x2) by simp [go_sem])
          have m2 := keepc b5 (show (wr.alloc (.cells #[.int .i64 x1, .int .i64 x2, .int .i64 x3, .slice sa sl sc, .int .i64 x5, .int .i64 x6, .int .i64 x7, .bool x8] 42)).cell? ⟨wr.heap.size, 2, none⟩ = some (.int .i64 x3) by simp [go_sem])
          have m3 := keepc b5 (show (wr.alloc (.cells #[.int .i64 x1, .int .i64 x2, .int .i64 x3, .slice sa sl sc, .int .i64 x5, .int .i64 x6, .int .i64 x7, .bool x8] 42)).cell? ⟨wr.heap.size, 3, none⟩ = some (.slice sa sl sc) by simp [go_sem])
          have m4 := keepc b5 (show (wr.alloc (.cells #[.int .i64 x1, .int .i64 x2, .int .i64 x3, .slice sa sl sc, .int .i64 x5, .int .i64 x6, .int .i64 x7, .bool x8] 42)).cell? ⟨wr.heap.size, 4, none⟩ = some (.int .i64 x5) by simp [go_sem])
          have m5 := keepc b5 (show (wr.alloc (.cells #[.int .i64 x1, .int .i64 x2, .int .i64 x3, .slice sa sl sc, .int .i64 x5, .int .i64 x6, .int .i64 x7, .bool x8] 42)).cell? ⟨wr.heap.size, 5, none⟩ = some (.int .i64 x6) by simp [go_sem])
          have m6 := keepc b5 (show (wr.alloc (.cells #[.int .i64 x1, .int .i64 x2, .int .i64 x3, .slice sa sl sc, .int .i64 x5, .int .i64 x6, .int .i64 x7, .bool x8] 42)).cell? ⟨wr.heap.size, 6, none⟩ = some (.int .i64 x7) by simp [go_sem])
          have m7 := keepc b5 (show (wr.alloc (.cells #[.int .i64 x1, .int .i64 x2, .int .i64 x3, .slice sa sl sc, .int .i64 x5, .int .i64 x6, .int .i64 x7, .bool x8] 42)).cell? ⟨wr.heap.size, 7, none⟩ = some (.bool x8) by simp [go_sem])
          have F6 := hid (F5.out.set (y := ⟨x1, x2, x3, sa, sl, sc, x5, x6, x7, x8, co⟩))
          have B6 := hid (st8_below (y := ⟨x1, x2, x3, sa, sl, sc, x5, x6, x7, x8, co⟩) B5.out (Nat.le_refl _))
          unfold st8 at F6 B6
          obtain ⟨⟨e0, e1, e2, e3, e4, e5, e6, e7⟩, g0, g1, g2, g3, g4, g5, g6, g7⟩ := F5.out
          simp only [Option.getD_none, le0] at e0 e1 e2 e3 e4 e5 e6 e7
          clear b5 UX c1 c2 c3 c4 c5 c6 c7 c8
          go_wp2_with fail
          refine ⟨⟨k + 1, by omega, by go_num, by rw [NN.out]; rfl, by unfold Hid; rw [NN.out]; exact F6.out, B6⟩, ?_⟩
          simp [intOf]; omega
        · have hy := GM.out y rfl
          have BY := hid (BX.out y hy)
          clear GM BX
          go_wp2_with fail
          refine (UX.out _ BV.out).mono ?_
          rintro e w5 ⟨rfl, b5⟩
          have B5 := hid (BV.out.trans (b5.mono BV.out.size))
          have F5 := hid (FV.out.below b5)
          replace kz0 := keepc b5 kz0
          replace kz1 := keepc b5 kz1
          replace kt0 := keepc b5 kt0
          replace kt1 := keepc b5 kt1
          have m0 := keepc b5 (show (wr.alloc (.cells #[.int .i64 x1, .int .i64 x2, .int .i64 x3, .slice sa sl sc, .int .i64 x5, .int .i64 x6, .int .i64 x7, .bool x8] 42)).cell? ⟨wr.heap.size, 0, none⟩ = some (.int .i64 x1) by simp [go_sem])
          have m1 := keepc b5 (show (wr.alloc (.cells #[.int .i64 x1, .int .i64 x2, .int .i64 x3, .slice sa sl sc, .int .i64 x5, .int .i64 x6, .int .i64 x7, .bool x8] 42)).cell? ⟨wr.heap.size, 1, none⟩ = some (.int .i64 x2) by simp [go_sem])
          have m2 := keepc b5 (show (wr.alloc (.cells #[.int .i64 x1, .int .i64 x2, .int .i64 x3, .slice sa sl sc, .int .i64 x5, .int .i64 x6, .int .i64 x7, .bool x8] 42)).cell? ⟨wr.heap.size, 2, none⟩ = some (.int .i64 x3) by simp [go_sem])
          have m3 := keepc b5 (show (wr.alloc (.cells #[.int .i64 x1, .int .i64 x2, .int .i64 x3, .slice sa sl sc, .int .i64 x5, .int .i64 x6, .int .i64 x7, .bool x8] 42)).cell? ⟨wr.heap.size, 3, none⟩ = some (.slice sa sl sc) by simp [go_sem])
          have m4 := keepc b5 (show (wr.alloc (.cells #[.int .i64 x1, .int .i64 x2, .int .i64 x3, .slice sa sl sc, .int .i64 x5, .int .i64 x6, .int .i64 x7, .bool x8] 42)).cell? ⟨wr.heap.size, 4, none⟩ = some (.int .i64 x5) by simp [go_sem])
          have m5 := keepc b5 (show (wr.alloc (.cells #[.int .i64 x1, .int .i64 x2, .int .i64 x3, .slice sa sl sc, .int .i64 x5, .int .i64 x6, .int .i64 x7, .bool x8] 42)).cell? ⟨wr.heap.size, 5, none⟩ = some (.int .i64 x6) by simp [go_sem])
          have m6 := keepc b5 (show (wr.alloc (.cells #[.int .i64 x1, .int .i64 x2, .int .i64 x3, .slice sa sl sc, .int .i64 x5, .int .i64 x6, .int .i64 x7, .bool x8] 42)).cell? ⟨wr.heap.size, 6, none⟩ = some (.int .i64 x7) by simp [go_sem])
          have m7 := keepc b5 (show (wr.alloc (.cells #[.int .i64 x1, .int .i64 x2, .int .i64 x3, .slice sa sl sc, .int .i64 x5, .int .i64 x6, .int .i64 x7, .bool x8] 42)).cell? ⟨wr.heap.size, 7, none⟩ = some (.bool x8) by simp [go_sem])
          obtain ⟨⟨e0, e1, e2, e3, e4, e5, e6, e7⟩, g0, g1, g2, g3, g4, g5, g6, g7⟩ := F5.out
          simp only [Option.getD_some] at e0 e1 e2 e3 e4 e5 e6 e7
          have EY : Hid (greT f g p1 p2 l (k + 1) = if befB f g x1 x2 y.ta y.qu p1 p2 = true then some ⟨x1, x2, x3, sa, sl, sc, x5, x6, x7, x8, co⟩ else some y) := LT.out
          clear LT UX c1 c2 c3 c4 c5 c6 c7 c8
          cases hbf : befB f g x1 x2 y.ta y.qu p1 p2
          · have NN : Hid (greT f g p1 p2 l (k + 1) = some y) := by unfold Hid; rw [EY.out, hbf]; rfl
            rw [hbf] at BY
            clear EY hbf
            go_wp2_with fail
            refine (BY.out _ B5.out).mono ?_
            rintro e w6 ⟨rfl, b6⟩
            have F6 := hid (F5.out.below b6)
            have B6 := hid (B5.out.trans (b6.mono B5.out.size))
            clear b6 BY
            go_wp2_with fail
            refine ⟨⟨k + 1, by omega, by go_num, by rw [NN.out]; rfl, by unfold Hid; rw [NN.out]; exact F6.out, B6⟩, ?_⟩
            simp [intOf]; omega
          · have NN : Hid (greT f g p1 p2 l (k + 1) = some ⟨x1, x2, x3, sa, sl, sc, x5, x6, x7, x8, co⟩) := by unfold Hid; rw [EY.out, hbf]; rfl
            rw [hbf] at BY
            clear EY hbf
            go_wp2_with fail
            refine (BY.out _ B5.out).mono ?_
            rintro e w6 ⟨rfl, b6⟩
            replace m0 := keepc b6 m0
            replace m1 := keepc b6 m1
            replace m2 := keepc b6 m2
            replace m3 := keepc b6 m3
            replace m4 := keepc b6 m4
            replace m5 := keepc b6 m5
            replace m6 := keepc b6 m6
            replace m7 := keepc b6 m7
            have F6 := hid (F5.out.below b6)
            have B6 := hid (B5.out.trans (b6.mono B5.out.size))
            clear e0 e1 e2 e3 e4 e5 e6 e7 g0 g1 g2 g3 g4 g5 g6 g7
            have F7 := hid (F6.out.set (y := ⟨x1, x2, x3, sa, sl, sc, x5, x6, x7, x8, co⟩))
            have B7 := hid (st8_below (y := ⟨x1, x2, x3, sa, sl, sc, x5, x6, x7, x8, co⟩) B6.out (Nat.le_refl _))
            unfold st8 at F7 B7
            obtain ⟨⟨e0, e1, e2, e3, e4, e5, e6, e7⟩, g0, g1, g2, g3, g4, g5, g6, g7⟩ := F6.out
            clear b6 BY
            go_wp2_with fail
            refine ⟨⟨k + 1, by omega, by go_num, by rw [NN.out]; rfl, by unfold Hid; rw [NN.out]; exact F7.out, B7⟩, ?_⟩
            simp [intOf]; omega
    · obtain rfl : k = len := by omega
      have RR := HRL.out.below hB.out
      obtain ⟨⟨r0, r1, r2, r3, r4, r5, r6, r7⟩, g0, g1, g2, g3, g4, g5, g6, g7⟩ := RR
      obtain ⟨⟨e0, e1, e2, e3, e4, e5, e6, e7⟩, _⟩ := hF.out
      simp only [le0] at r0 r1 r2 r3 r4 r5 r6 r7
      have BE := hid (BA.out.trans (hB.out.mono BA.out.size))
      have HG : Hid (greT f g p1 p2 l l.length = greT f g p1 p2 l k) := by unfold Hid; rw [HL.out]
      generalize greT f g p1 p2 l k = o at *
      generalize hy : o.getD le0 = y at *
      have HY := hid hy
      clear hy UY UB_ HRL
      go_wp2_with fail
      rw [Exit.noGoto_ret]
      have S8 := hid (FreeL.set (y := y) (⟨⟨r0, r1, r2, r3, r4, r5, r6, r7⟩, g0, g1, g2, g3, g4, g5, g6, g7⟩ : FreeL wr (w.heap.size + 1 + 1) le0))
      have BS := hid (st8_below (y := y) BE.out (show w.heap.size ≤ w.heap.size + 1 + 1 by omega))
      unfold st8 at S8 BS
      obtain ⟨⟨s0, s1, s2, s3, s4, s5, s6, s7⟩, _⟩ := S8.out
      exact bodyPost_ret (v := .tuple #[.agg #[.int .i64 y.ta, .int .i64 y.qu, .int .i64 y.no, .slice y.sa y.sl y.sc, .int .i64 y.me, .int .i64 y.si, .int .i64 y.un, .bool y.st], .bool o.isSome]) (by simp only [results, Tryz.results25]; simp [go_sem, s0, s1, s2, s3, s4, s5, s6, s7, r0, r1, r2, r3, r4, r5, r6, r7, g0, g1, g2, g3, g4, g5, g6, g7]) rfl ⟨by rw [HG.out, HY.out]; rfl, BS.out⟩
end Go.Proofs.YtdbkjcnanffibaaGreat

namespace Go.Proofs.YtdbkjcnanffibaaGreat
open Go.RowKit Go.Deep Go.Maps Go.Shelf
set_option linter.unusedVariables false
set_option linter.unusedSimpArgs false

/-- The best lease to end. -/
def bestL (l : List Qu) (ls : List Le) (p q : Int) : Option Le := greT (fun id => qfT l id l.length) (fun i => useT (lastL ls) i (lastL ls).length) p q (lastL ls) (lastL ls).length
def chsE (l : List Qu) (ls : List Le) (p q : Int) : Int := if readE l ls = 0 then (if chk p q = 0 then (if (bestL l ls p q).isSome = true then 0 else 8) else 1) else readE l ls
def chsT (l : List Qu) (ls : List Le) (p q : Int) : Int := if readE l ls = 0 ∧ chk p q = 0 then ((bestL l ls p q).getD le0).ta else 0
theorem OwnE.cellset {α : Type} {enc : α → List Value} {k : Nat} {e : TypeId} {base : Nat} {w : World} {v : Value} {n : Nat} {l : List α} (h : OwnE e k enc base w v n l) (ad : Addr) (u : Value) (hb : ad.block < base) : OwnE e k enc base (w.setCell ad u) v n l := by
  obtain ⟨h0, h1, h2⟩ := h
  refine ⟨h0, h1, ?_⟩
  rcases h2 with h2 | ⟨g, cap, cur, hv, hg, hh, r⟩
  · exact .inl h2
  · exact .inr ⟨g, cap, cur, hv, hg, (heap_setCell_other _ _ _ _ (by omega)).trans hh, r⟩
theorem ret2i {a b c d : Int} (h : a = c) (g : b = d) : Ending.returned (.tuple #[.int .i64 c, .int .i64 d]) = .returned (.tuple #[.int .i64 a, .int .i64 b]) := by rw [h, g]

set_option maxRecDepth 100000 in
set_option maxHeartbeats 4000000 in
theorem uchoose_any (a : Option Addr) (len cap : Nat) (l : List Qu) (b : Option Addr) (ln cp : Nat) (ls : List Le) (p1 p2 : Int) (w : World) (h : HoldsQ w a len cap l) (hok : ∀ q ∈ l, q.ok) (hl : HoldsL w b ln cp ls) (hlo : ∀ x ∈ ls, x.okB) (hn : ln * 80 ≤ 140737488355328) (hz : readE l ls = 0 → useErr (lastL ls) = 0) :
    Calls Tryz.prog 9 #[.slice a len cap, .slice b ln cp, .agg #[.int .i64 p1, .int .i64 p2]] w fun e w' => e = .returned (.tuple #[.int .i64 (chsT l ls p1 p2), .int .i64 (chsE l ls p1 p2)]) ∧ Below w.heap.size w w' := by
  have RD := hid (fun W (hW : Below w.heap.size w W) => uread_any a len cap l b ln cp ls W (h.below hW) hok ⟨hl.1.below hW, fun x hx => (hl.2 x hx).below hW⟩ hlo (by omega))
  have LA := hid (fun W (hW : Below w.heap.size w W) => lasting_any b ln cp ls W ⟨hl.1.below hW, fun x hx => (hl.2 x hx).below hW⟩ hn)
  have HC := hid hl.2
  have HLO := hid (fun x (hx : x ∈ lastL ls) => hlo x (lastL_mem hx))
  have CK := hid (fun W => check_any p1 p2 W)
  have B0 := hid ((Below.refl w.heap.size w).alloc (Nat.le_refl _) (.cells #[.int .i64 p1, .int .i64 p2] 33))
  have z0 : (w.alloc (.cells #[.int .i64 p1, .int .i64 p2] 33)).cell? ⟨w.heap.size, 0, none⟩ = some (.int .i64 p1) := by simp [go_sem]
  have z1 : (w.alloc (.cells #[.int .i64 p1, .int .i64 p2] 33)).cell? ⟨w.heap.size, 1, none⟩ = some (.int .i64 p2) := by simp [go_sem]
  clear h hok hl hlo
  by_cases e1 : readE l ls = 0
  case neg =>
    have E : Hid (chsE l ls p1 p2 = readE l ls) := by unfold Hid chsE; rw [if_neg e1]
    have T : Hid (chsT l ls p1 p2 = 0) := by unfold Hid chsT; rw [if_neg (fun h => e1 h.1)]
    have t : (readE l ls != 0) = true := by simpa using e1
    have E1 := hid e1
    clear e1 hz
    generalize readE l ls = RE at *
    go_enter Tryz.func9, Tryz.ntmps9
    go_wp2_with fail
    refine (RD.out _ B0.out).mono ?_
    rintro e w1 ⟨v1, rfl, o1, b1⟩
    have o2 : v1 = .agg #[.map none, .map none] := by
      rcases o1 with ⟨_, h⟩ | ⟨h, _⟩
      · exact h
      · exact absurd h E1.out
    subst o2
    have B1 := hid (B0.out.trans (b1.mono B0.out.size))
    clear o1 b1
    go_wp2_with fail
    go_ret2
    exact ⟨ret2i T.out E.out, B1.out.alloc B1.out.size _⟩
  have hz' := hid (hz e1)
  rw [e1] at RD
  by_cases e2 : chk p1 p2 = 0
  case neg =>
    have E : Hid (chsE l ls p1 p2 = 1) := by unfold Hid chsE; rw [if_pos e1, if_neg e2]
    have T : Hid (chsT l ls p1 p2 = 0) := by unfold Hid chsT; rw [if_neg (fun h => e2 h.2)]
    have t : (chk p1 p2 != 0) = true := by simpa using e2
    clear e1 e2 hz
    generalize chk p1 p2 = C at *
    go_enter Tryz.func9, Tryz.ntmps9
    go_wp2_with fail
    refine (RD.out _ B0.out).mono ?_
    rintro e w1 ⟨v1, rfl, o1, b1⟩
    have o2 : ∃ mq mu, v1 = .agg #[.map (some mq), .map (some mu)] := by
      rcases o1 with ⟨h, _⟩ | ⟨_, mq, mu, h, _⟩
      · exact absurd rfl h
      · exact ⟨mq, mu, h⟩
    obtain ⟨mq, mu, rfl⟩ := o2
    have B1 := hid (B0.out.trans (b1.mono B0.out.size))
    replace z0 := keepc b1 z0
    replace z1 := keepc b1 z1
    clear o1 b1
    have B2 := hid (B1.out.alloc B1.out.size (.cells #[.map (some mq), .map (some mu)] 49))
    have y0 := keepc ((Below.refl w1.heap.size w1).alloc (Nat.le_refl _) (.cells #[.map (some mq), .map (some mu)] 49)) z0
    have y1 := keepc ((Below.refl w1.heap.size w1).alloc (Nat.le_refl _) (.cells #[.map (some mq), .map (some mu)] 49)) z1
    go_wp2_with fail
    refine (CK.out _).mono ?_
    rintro e w2 ⟨rfl, b2⟩
    have B3 := hid (B2.out.trans (b2.mono B2.out.size))
    clear b2
    go_wp2_with fail
    go_ret2
    exact ⟨ret2i T.out E.out, B3.out⟩
  have t : (chk p1 p2 != 0) = false := by simpa using e2
  have E : Hid (chsE l ls p1 p2 = if (bestL l ls p1 p2).isSome = true then 0 else 8) := by unfold Hid chsE; rw [if_pos e1, if_pos e2]
  have T : Hid (chsT l ls p1 p2 = ((bestL l ls p1 p2).getD le0).ta) := by unfold Hid chsT; rw [if_pos ⟨e1, e2⟩]
  clear e1 e2 hz
  generalize chk p1 p2 = C at *
  go_enter Tryz.func9, Tryz.ntmps9
  go_wp2_with fail
  refine (RD.out _ B0.out).mono ?_
  rintro e w1 ⟨v1, rfl, o1, b1⟩
  have o2 : ∃ mq mu, v1 = .agg #[.map (some mq), .map (some mu)] ∧ QMp w1 mq l.length (fun id => qfT l id l.length) := by
    rcases o1 with ⟨h, _⟩ | ⟨_, mq, mu, h, _, _, h1, _⟩
    · exact absurd rfl h
    · exact ⟨mq, mu, h, h1⟩
  obtain ⟨mq, mu, rfl, hQ⟩ := o2
  have B1 := hid (B0.out.trans (b1.mono B0.out.size))
  replace z0 := keepc b1 z0
  replace z1 := keepc b1 z1
  have HSS : Hid (w.heap.size < w1.heap.size) := World.block_lt_of_cell? _ _ z0
  have HMQ := hid hQ.lt
  clear o1 b1
  have B2 := hid (B1.out.alloc B1.out.size (.cells #[.map (some mq), .map (some mu)] 49))
  have bA := (Below.refl w1.heap.size w1).alloc (Nat.le_refl _) (.cells #[.map (some mq), .map (some mu)] 49)
  replace z0 := keepc bA z0
  replace z1 := keepc bA z1
  have HQM := hid (hQ.below bA)
  have h0 : (w1.alloc (.cells #[.map (some mq), .map (some mu)] 49)).cell? ⟨w1.heap.size, 0, none⟩ = some (.map (some mq)) := by simp [go_sem]
  have h1 : (w1.alloc (.cells #[.map (some mq), .map (some mu)] 49)).cell? ⟨w1.heap.size, 1, none⟩ = some (.map (some mu)) := by simp [go_sem]
  have f1 : (w1.alloc (.cells #[.map (some mq), .map (some mu)] 49)).frozen? ⟨w1.heap.size, 1, none⟩ = false := by simp [go_sem]
  have HS := hid B1.out.size
  clear hQ bA
  go_wp2_with fail
  refine (CK.out _).mono ?_
  rintro e w2 ⟨rfl, b2⟩
  have B3 := hid (B2.out.trans (b2.mono B2.out.size))
  replace z0 := keepc b2 z0
  replace z1 := keepc b2 z1
  replace f1 := keepf b2 h1 f1
  replace h0 := keepc b2 h0
  replace h1 := keepc b2 h1
  replace HQM := hid (HQM.out.below b2)
  clear b2
  generalize hM : Array.size (World.heap w1) = M at *
  clear hM
  have HM2 : Hid (M < w2.heap.size) := World.block_lt_of_cell? _ _ h0
  go_wp2_with fail
  refine (LA.out _ B3.out).mono ?_
  rintro e w3 ⟨v3, rfl, o3, b3⟩
  have B4 := hid (B3.out.trans (b3.mono B3.out.size))
  replace z0 := keepc b3 z0
  replace z1 := keepc b3 z1
  replace f1 := keepf b3 h1 f1
  replace h0 := keepc b3 h0
  replace h1 := keepc b3 h1
  replace HQM := hid (HQM.out.below b3)
  obtain ⟨la_, lc, rfl⟩ := o3.form
  have H3 : Hid (HoldsL w3 la_ (lastL ls).length lc (lastL ls)) := ⟨o3.holds Le.cs_len, fun x hx => (HC.out x (lastL_mem hx)).below B4.out⟩
  have AD := hid (uadd_any la_ (lastL ls).length lc (lastL ls) w3 H3.out HLO.out)
  rw [hz'.out] at AD
  have O3 := hid o3
  clear o3 b3
  go_wp2_with fail
  refine AD.out.mono ?_
  rintro e w4 ⟨v4, rfl, o4, b4⟩
  have o5 : ∃ b, v4 = .map (some b) ∧ w3.heap.size ≤ b ∧ UM w4 b (lastL ls).length (fun q => hasT (lastL ls) q (lastL ls).length) (fun q => useT (lastL ls) q (lastL ls).length) := by
    rcases o4 with ⟨h, _⟩ | ⟨_, h⟩
    · exact absurd rfl h
    · exact h
  obtain ⟨mv, rfl, hlo, hU⟩ := o5
  have B5 := hid (B4.out.trans (b4.mono B4.out.size))
  replace z0 := keepc b4 z0
  replace z1 := keepc b4 z1
  replace f1 := keepf b4 h1 f1
  have hM3 : Hid (M < w3.heap.size) := World.block_lt_of_cell? _ _ h0
  replace h0 := keepc b4 h0
  replace h1 := keepc b4 h1
  replace HQM := hid (HQM.out.below b4)
  have H4 : Hid (HoldsL w4 la_ (lastL ls).length lc (lastL ls)) := H3.out.below b4
  have O4 := hid (O3.out.below b4)
  clear b4 o4 AD RD LA CK O3 H3 H4
  have m2 := HM2.out
  have ms := HSS.out
  have mq' := HMQ.out
  have m3 := hM3.out
  have k0 : (w4.setCell ⟨M, 1, none⟩ (.map (some mv))).cell? ⟨M, 0, none⟩ = some (.map (some mq)) := by simp [go_sem, h0, h1, f1]
  have k1 : (w4.setCell ⟨M, 1, none⟩ (.map (some mv))).cell? ⟨M, 1, none⟩ = some (.map (some mv)) := by simp [go_sem, h0, h1, f1]
  have q0 : (w4.setCell ⟨M, 1, none⟩ (.map (some mv))).cell? ⟨w.heap.size, 0, none⟩ = some (.int .i64 p1) := (World.cell?_setCell_far _ _ _ _ (by show M ≠ w.heap.size; omega)).trans z0
  have q1 : (w4.setCell ⟨M, 1, none⟩ (.map (some mv))).cell? ⟨w.heap.size, 1, none⟩ = some (.int .i64 p2) := (World.cell?_setCell_far _ _ _ _ (by show M ≠ w.heap.size; omega)).trans z1
  have B6 : Hid (Below w.heap.size w (w4.setCell ⟨M, 1, none⟩ (.map (some mv)))) := B5.out.setCell (by show w.heap.size ≤ M; omega) _
  have O6 := (O4.out.cellset ⟨M, 1, none⟩ (.map (some mv)) (by show M < _; exact m2))
  have H6 : HoldsL (w4.setCell ⟨M, 1, none⟩ (.map (some mv))) la_ (lastL ls).length lc (lastL ls) := ⟨O6.holds Le.cs_len, fun x hx => (HC.out x (lastL_mem hx)).below B6.out⟩
  have Q6 : QMp (w4.setCell ⟨M, 1, none⟩ (.map (some mv))) mq l.length (fun id => qfT l id l.length) := HQM.out.same (heap_setCell_other _ _ _ _ (by show mq ≠ M; omega))
  have U6 : UM (w4.setCell ⟨M, 1, none⟩ (.map (some mv))) mv (lastL ls).length (fun q => hasT (lastL ls) q (lastL ls).length) (fun q => useT (lastL ls) q (lastL ls).length) := hU.same (heap_setCell_other _ _ _ _ (by show mv ≠ M; omega))
  have GR := hid (greatest_any p1 p2 la_ (lastL ls).length lc (lastL ls) _ H6 HLO.out Q6 U6)
  clear H6 Q6 U6 O6 O4 HQM hU m2 ms mq' m3
  change Hid (Calls _ _ _ _ fun e w' => e = .returned (.tuple #[.agg (((bestL l ls p1 p2).getD le0).cs).toArray, .bool (bestL l ls p1 p2).isSome]) ∧ _) at GR
  generalize bestL l ls p1 p2 = o at *
  generalize hy : o.getD le0 = y at *
  have HY := hid hy
  clear hy
  go_wp2_with fail
  refine GR.out.mono ?_
  rintro e w5 ⟨rfl, b5⟩
  have B7 := hid (B6.out.trans (b5.mono B6.out.size))
  clear b5 GR
  obtain ⟨y1, y2, y3, ya, yl, yc, y5, y6, y7, y8, yo⟩ := y
  simp only [Le.cs] at *
  have B8 := hid (B7.out.alloc B7.out.size (.cells #[.int .i64 y1, .int .i64 y2, .int .i64 y3, .slice ya yl yc, .int .i64 y5, .int .i64 y6, .int .i64 y7, .bool y8] 42))
  rcases o with _ | o
  · have T2 : Hid (chsT l ls p1 p2 = 0) := by
      unfold Hid; rw [T.out]
      have := HY.out
      simp only [Option.getD_none, le0] at this
      cases this
      rfl
    go_wp2_with fail
    go_ret2
    exact ⟨ret2i T2.out E.out, B8.out⟩
  · go_wp2_with fail
    go_ret2
    exact ⟨ret2i T.out E.out, B8.out⟩
end Go.Proofs.YtdbkjcnanffibaaGreat

namespace Go.Proofs.YtdbkjcnanffibaaGreat
open Go.RowKit Go.Deep Go.Maps Go.Shelf
set_option linter.unusedVariables false
set_option linter.unusedSimpArgs false

/-- What a queue's leases use, as a list's sum. -/
def sumL (q : Int) : List Le → Int × Int
  | [] => (0, 0)
  | x :: r => if x.qu = q then ((sumL q r).1 + (x.sl : Int), (sumL q r).2 + x.me) else sumL q r
theorem sumL_snoc (q : Int) (x : Le) : ∀ l : List Le, sumL q (l ++ [x]) = if x.qu = q then ((sumL q l).1 + (x.sl : Int), (sumL q l).2 + x.me) else sumL q l := by
  intro l
  induction l with
  | nil => rfl
  | cons y r ih =>
    rw [List.cons_append]
    unfold sumL
    rw [ih]
    by_cases h1 : x.qu = q <;> by_cases h2 : y.qu = q <;> simp [h1, h2] <;> omega
theorem sumL_cons (q : Int) (x : Le) (r : List Le) : sumL q (x :: r) = if x.qu = q then ((sumL q r).1 + (x.sl : Int), (sumL q r).2 + x.me) else sumL q r := rfl
theorem useT_sum (l : List Le) (q : Int) : ∀ {k : Nat}, k ≤ l.length → useT l q k = sumL q (l.take k) := by
  intro k
  induction k with
  | zero => intro _; simp [useT, sumL]
  | succ k ih =>
    intro hk
    rw [List.take_add_one, la_get (by omega)]
    simp only [Option.toList_some]
    rw [sumL_snoc, ← ih (by omega)]
    rfl
theorem sumL_le {q : Int} {m l : List Le} (h : m.Sublist l) : gdB l = true → 0 ≤ (sumL q m).1 ∧ (sumL q m).1 ≤ (sumL q l).1 ∧ 0 ≤ (sumL q m).2 ∧ (sumL q m).2 ≤ (sumL q l).2 := by
  have pos : ∀ {x : Le}, x.gd = true → 0 ≤ x.me := by
    intro x hx
    unfold Le.gd at hx
    rw [Bool.and_eq_true] at hx
    exact (okv_true hx.2).2.1
  induction h with
  | slnil => intro _; simp [sumL]
  | cons y h ih =>
    intro hg
    unfold gdB at hg
    rw [List.all_cons, Bool.and_eq_true] at hg
    have h1 := ih hg.2
    have h2 := pos hg.1
    rw [sumL_cons q y]
    split
    · simp only; omega
    · exact h1
  | cons_cons y h ih =>
    intro hg
    unfold gdB at hg
    rw [List.all_cons, Bool.and_eq_true] at hg
    have h1 := ih hg.2
    have h2 := pos hg.1
    rw [sumL_cons, sumL_cons]
    split
    · simp only; omega
    · exact h1
theorem fitT_all {l : List Le} (h : ∀ k, k < l.length → okv (useT l (la l k).qu (k + 1)) = true) : ∀ n, n ≤ l.length → fitT l n = true := by
  intro n
  induction n with
  | zero => intro _; rfl
  | succ n ih =>
    intro hn
    unfold fitT
    rw [ih (by omega), h n (by omega)]; rfl
/-- A part of leases that are right is right. -/
theorem useErr_part {m l : List Le} (h : m.Sublist l) (he : useErr l = 0) : useErr m = 0 := by
  unfold useErr at he
  split at he
  · rename_i hg
    split at he
    · rename_i hf
      have hgm : gdB m = true := by
        unfold gdB at hg ⊢
        rw [List.all_eq_true] at hg ⊢
        exact fun x hx => hg x (h.subset hx)
      have hfm : fitT m m.length = true := by
        refine fitT_all (fun k hk => ?_) _ (Nat.le_refl _)
        rw [useT_sum m _ (by omega)]
        have h1 := sumL_le (q := (la m k).qu) ((List.take_sublist (k + 1) m).trans h) hg
        have h2 := okv_true (fitT_ok (q := (la m k).qu) hf)
        rw [useT_sum l _ (Nat.le_refl _), List.take_length] at h2
        obtain ⟨⟨a1, a2⟩, a3, a4⟩ := h2
        unfold okv okp
        rw [decide_eq_true_eq]
        refine ⟨⟨?_, ?_⟩, ?_, ?_⟩ <;> omega
      unfold useErr
      rw [if_pos hgm, if_pos hfm]
    · cases he
  · cases he
theorem read_last {l : List Qu} {ls : List Le} (h : readE l ls = 0) : useErr (lastL ls) = 0 := by
  unfold readE at h
  split at h
  · split at h
    · rename_i he
      rw [lastL_eq]
      exact useErr_part List.filter_sublist he
    · rename_i h1; exact absurd h h1
  · rename_i h1; exact absurd h h1
end Go.Proofs.YtdbkjcnanffibaaGreat

namespace Go.Proofs.YtdbkjcnanffibaaGreat
open Go.RowKit Go.Deep Go.Maps Go.Shelf
set_option linter.unusedVariables false
set_option linter.unusedSimpArgs false
set_option maxRecDepth 100000

/-- What a literal holds. -/
theorem holds8 {α : Type} {k : Nat} {enc : α → List Value} (hk : ∀ x, (enc x).length = k) {W : World} {b : Nat} {cs : Array Value} {t : TypeId} {fr : Nat × Nat} {l : List α} (hb : W.heap[b]? = some (.cells cs t fr)) (e : cs.toList = l.flatMap enc) (hl : l.length ≤ 64) : HoldsE k enc W (some ⟨b, 0, none⟩) l.length l.length l :=
  ⟨rfl, Nat.le_refl _, by omega, (fun h => by cases h), fun _ => ⟨b, 0, rfl, (Array.getElem?_eq_some_iff.1 hb).1, fun j x hx i v hv => by
    rw [Nat.zero_add, cell_of_row W b _ cs t fr hb, ← Array.getElem?_toList, e]
    exact flat_get hk l j x i v hx hv⟩⟩

theorem alloc_old8 (w : World) (o : Obj) {b : Nat} (h : b < w.heap.size) : (w.alloc o).heap[b]? = w.heap[b]? := ((Below.refl w.heap.size w).alloc (Nat.le_refl _) o).block b h
theorem alloc38 (w : World) (A B C : Obj) : (((w.alloc A).alloc B).alloc C).heap[w.heap.size]? = some A ∧ (((w.alloc A).alloc B).alloc C).heap[w.heap.size + 1]? = some B ∧ (((w.alloc A).alloc B).alloc C).heap[w.heap.size + 1 + 1]? = some C := by
  have s1 : (w.alloc A).heap.size = w.heap.size + 1 := by simp
  have s2 : ((w.alloc A).alloc B).heap.size = w.heap.size + 1 + 1 := by simp
  refine ⟨?_, ?_, ?_⟩
  · rw [alloc_old8 _ _ (by omega), alloc_old8 _ _ (by omega)]; exact heap_alloc_new w A
  · rw [alloc_old8 _ _ (by omega), ← s1]; exact heap_alloc_new _ B
  · rw [← s2]; exact heap_alloc_new _ C
def qs8 : List Qu := [⟨0, -1, 1, 10, 10, 0, 0⟩, ⟨1, 0, 1, 10, 10, 0, 0⟩]
def ls8 (b0 b1 n : Nat) (c : List Int) : List Le := [⟨4, 1, 0, some ⟨b0, 0, none⟩, 1, 1, 0, 0, 0, false, [0]⟩, ⟨7, 1, 0, some ⟨b1, 0, none⟩, n, n, 0, 0, 0, false, c⟩]
theorem useErr8 (b0 b1 : Nat) : useErr (ls8 b0 b1 2 [1, 2]) = 0 := by kernel_rfl
theorem useV8 (b0 b1 : Nat) : useV (ls8 b0 b1 2 [1, 2]) = [⟨1, 3, 0⟩] := by kernel_rfl
theorem readE8 (b0 b1 : Nat) : readE qs8 (ls8 b0 b1 1 [1]) = 0 := by kernel_rfl
theorem bestL8 (b0 b1 : Nat) : bestL qs8 (ls8 b0 b1 1 [1]) 10 10 = some ⟨7, 1, 0, some ⟨b1, 0, none⟩, 1, 1, 0, 0, 0, false, [1]⟩ := by kernel_rfl
theorem chsE8 (b0 b1 : Nat) : chsE qs8 (ls8 b0 b1 1 [1]) 10 10 = 0 := by
  unfold chsE; rw [if_pos (readE8 b0 b1), bestL8]; rfl
theorem chsT8 (b0 b1 : Nat) : chsT qs8 (ls8 b0 b1 1 [1]) 10 10 = 7 := by
  unfold chsT; rw [if_pos ⟨readE8 b0 b1, by rfl⟩, bestL8]; rfl

set_option maxHeartbeats 4000000 in
theorem awake8_any (w : World) : Calls Tryz.prog 5 #[] w fun e w' => e = .returned (.bool true) ∧ Below w.heap.size w w' := by
  have US : Hid (∀ W b0 b1 c, HoldsL W (some ⟨c, 0, none⟩) 2 2 (ls8 b0 b1 2 [1, 2]) → Calls Tryz.prog 11 #[.slice (some ⟨c, 0, none⟩) 2 2] W fun e w' => ∃ ub uc, e = .returned (.tuple #[.slice (some ⟨ub, 0, none⟩) 1 uc, .int .i64 0]) ∧ HoldsU w' (some ⟨ub, 0, none⟩) 1 uc [⟨1, 3, 0⟩] ∧ Below W.heap.size W w') := by
    intro W b0 b1 c h
    have hok : ∀ x ∈ ls8 b0 b1 2 [1, 2], x.okB := by
      intro x hx
      simp only [ls8, List.mem_cons, List.not_mem_nil, or_false] at hx
      rcases hx with rfl | rfl <;> exact ⟨by unfold I64; simp, by unfold I64; simp, by unfold I64; simp⟩
    refine (uuses_any _ 2 2 _ W h hok (by omega)).mono ?_
    rintro e w' ⟨v, rfl, h1, h2⟩
    have h3 := (h1.is hok (useErr8 b0 b1)).1
    rw [useV8] at h3
    rw [useErr8]
    obtain ⟨a, cap, rfl⟩ := h3.form
    have h4 := h3.holds Us.cs_len
    obtain ⟨g, hg⟩ : ∃ g, a = some ⟨g, 0, none⟩ := by
      rcases h3.2.2 with ⟨_, h0⟩ | ⟨g, cp, cur, hv, _⟩
      · cases h0
      · cases hv; exact ⟨g, rfl⟩
    subst hg
    exact ⟨g, cap, rfl, h4, h2⟩
  have CH : Hid (∀ W b0 b1 c q, HoldsL W (some ⟨c, 0, none⟩) 2 2 (ls8 b0 b1 1 [1]) → HoldsQ W (some ⟨q, 0, none⟩) 2 2 qs8 → Calls Tryz.prog 9 #[.slice (some ⟨q, 0, none⟩) 2 2, .slice (some ⟨c, 0, none⟩) 2 2, .agg #[.int .i64 10, .int .i64 10]] W fun e w' => e = .returned (.tuple #[.int .i64 7, .int .i64 0]) ∧ Below W.heap.size W w') := by
    intro W b0 b1 c q h hq
    have hok : ∀ x ∈ ls8 b0 b1 1 [1], x.okB := by
      intro x hx
      simp only [ls8, List.mem_cons, List.not_mem_nil, or_false] at hx
      rcases hx with rfl | rfl <;> exact ⟨by unfold I64; simp, by unfold I64; simp, by unfold I64; simp⟩
    have hqo : ∀ x ∈ qs8, x.ok := by
      intro x hx
      simp only [qs8, List.mem_cons, List.not_mem_nil, or_false] at hx
      rcases hx with rfl | rfl <;> (unfold Qu.ok I64; simp)
    have := uchoose_any _ 2 2 qs8 _ 2 2 _ 10 10 W hq hqo h hok (by omega) read_last
    rw [chsE8, chsT8] at this
    exact this
  go_enter Tryz.func5, Tryz.ntmps5
  go_wp2_with fail
  have LT : Hid (∀ (W : World) (n : Nat) (cc : Array Value) (c : List Int), cc.toList = c.flatMap encN → c.length = n → n ≤ 64 → HoldsL (((W.alloc (.cells #[.int .i64 0] 3)).alloc (.cells cc 3)).alloc (.cells #[.int .i64 4, .int .i64 1, .int .i64 0, .slice (some ⟨W.heap.size, 0, none⟩) 1 1, .int .i64 0, .int .i64 0, .int .i64 0, .bool false, .int .i64 7, .int .i64 1, .int .i64 0, .slice (some ⟨W.heap.size + 1, 0, none⟩) n n, .int .i64 0, .int .i64 0, .int .i64 0, .bool false] 42)) (some ⟨W.heap.size + 1 + 1, 0, none⟩) 2 2 (ls8 W.heap.size (W.heap.size + 1) n c)) := by
    intro W n cc c e hc hn
    obtain ⟨h1, h2, h3⟩ := alloc38 W (.cells #[.int .i64 0] 3) (.cells cc 3) (.cells #[.int .i64 4, .int .i64 1, .int .i64 0, .slice (some ⟨W.heap.size, 0, none⟩) 1 1, .int .i64 0, .int .i64 0, .int .i64 0, .bool false, .int .i64 7, .int .i64 1, .int .i64 0, .slice (some ⟨W.heap.size + 1, 0, none⟩) n n, .int .i64 0, .int .i64 0, .int .i64 0, .bool false] 42)
    refine ⟨holds8 (cs := #[.int .i64 4, .int .i64 1, .int .i64 0, .slice (some ⟨W.heap.size, 0, none⟩) 1 1, .int .i64 0, .int .i64 0, .int .i64 0, .bool false, .int .i64 7, .int .i64 1, .int .i64 0, .slice (some ⟨W.heap.size + 1, 0, none⟩) n n, .int .i64 0, .int .i64 0, .int .i64 0, .bool false]) (t := 42) (fr := (0, 0)) Le.cs_len h3 rfl (by simp [ls8]), fun x hx => ?_⟩
    simp only [ls8, List.mem_cons, List.not_mem_nil, or_false] at hx
    rcases hx with rfl | rfl
    · exact holds8 (cs := #[.int .i64 0]) (t := 3) (fr := (0, 0)) (l := [0]) encN_len h1 rfl (by decide)
    · have := holds8 (cs := cc) (t := 3) (fr := (0, 0)) (l := c) encN_len h2 e (by omega)
      rw [hc] at this
      exact this
  have B0 := hid (((Below.refl w.heap.size w).alloc (Nat.le_refl _) (.cells #[.int .i64 10, .int .i64 10] 33)).alloc (by simp) (.cells #[.int .i64 0, .int .i64 (-1), .int .i64 1, .int .i64 10, .int .i64 10, .int .i64 0, .int .i64 0, .int .i64 1, .int .i64 0, .int .i64 1, .int .i64 10, .int .i64 10, .int .i64 0, .int .i64 0] 38))
  have z0 : ((w.alloc (.cells #[.int .i64 10, .int .i64 10] 33)).alloc (.cells #[.int .i64 0, .int .i64 (-1), .int .i64 1, .int .i64 10, .int .i64 10, .int .i64 0, .int .i64 0, .int .i64 1, .int .i64 0, .int .i64 1, .int .i64 10, .int .i64 10, .int .i64 0, .int .i64 0] 38)).cell? ⟨w.heap.size, 0, none⟩ = some (.int .i64 10) := by simp [go_sem]
  have z1 : ((w.alloc (.cells #[.int .i64 10, .int .i64 10] 33)).alloc (.cells #[.int .i64 0, .int .i64 (-1), .int .i64 1, .int .i64 10, .int .i64 10, .int .i64 0, .int .i64 0, .int .i64 1, .int .i64 0, .int .i64 1, .int .i64 10, .int .i64 10, .int .i64 0, .int .i64 0] 38)).cell? ⟨w.heap.size, 1, none⟩ = some (.int .i64 10) := by simp [go_sem]
  have HQ0 : Hid (HoldsQ ((w.alloc (.cells #[.int .i64 10, .int .i64 10] 33)).alloc (.cells #[.int .i64 0, .int .i64 (-1), .int .i64 1, .int .i64 10, .int .i64 10, .int .i64 0, .int .i64 0, .int .i64 1, .int .i64 0, .int .i64 1, .int .i64 10, .int .i64 10, .int .i64 0, .int .i64 0] 38)) (some ⟨w.heap.size + 1, 0, none⟩) 2 2 qs8) := holds8 (cs := #[.int .i64 0, .int .i64 (-1), .int .i64 1, .int .i64 10, .int .i64 10, .int .i64 0, .int .i64 0, .int .i64 1, .int .i64 0, .int .i64 1, .int .i64 10, .int .i64 10, .int .i64 0, .int .i64 0]) (t := 38) (fr := (0, 0)) (l := qs8) Qu.cs_len (by have := heap_alloc_new (w.alloc (.cells #[.int .i64 10, .int .i64 10] 33)) (.cells #[.int .i64 0, .int .i64 (-1), .int .i64 1, .int .i64 10, .int .i64 10, .int .i64 0, .int .i64 0, .int .i64 1, .int .i64 0, .int .i64 1, .int .i64 10, .int .i64 10, .int .i64 0, .int .i64 0] 38); simpa using this) rfl (by decide)
  have L1 := LT.out ((w.alloc (.cells #[.int .i64 10, .int .i64 10] 33)).alloc (.cells #[.int .i64 0, .int .i64 (-1), .int .i64 1, .int .i64 10, .int .i64 10, .int .i64 0, .int .i64 0, .int .i64 1, .int .i64 0, .int .i64 1, .int .i64 10, .int .i64 10, .int .i64 0, .int .i64 0] 38)) 2 #[.int .i64 1, .int .i64 2] [1, 2] rfl rfl (by decide)
  have s2 : ((w.alloc (.cells #[.int .i64 10, .int .i64 10] 33)).alloc (.cells #[.int .i64 0, .int .i64 (-1), .int .i64 1, .int .i64 10, .int .i64 10, .int .i64 0, .int .i64 0, .int .i64 1, .int .i64 0, .int .i64 1, .int .i64 10, .int .i64 10, .int .i64 0, .int .i64 0] 38)).heap.size = w.heap.size + 1 + 1 := by simp
  have BL := hid ((((Below.refl ((w.alloc (.cells #[.int .i64 10, .int .i64 10] 33)).alloc (.cells #[.int .i64 0, .int .i64 (-1), .int .i64 1, .int .i64 10, .int .i64 10, .int .i64 0, .int .i64 0, .int .i64 1, .int .i64 0, .int .i64 1, .int .i64 10, .int .i64 10, .int .i64 0, .int .i64 0] 38)).heap.size ((w.alloc (.cells #[.int .i64 10, .int .i64 10] 33)).alloc (.cells #[.int .i64 0, .int .i64 (-1), .int .i64 1, .int .i64 10, .int .i64 10, .int .i64 0, .int .i64 0, .int .i64 1, .int .i64 0, .int .i64 1, .int .i64 10, .int .i64 10, .int .i64 0, .int .i64 0] 38))).alloc (Nat.le_refl _) (.cells #[.int .i64 0] 3)).alloc (by simp) (.cells #[.int .i64 1, .int .i64 2] 3)).alloc (by first | (simp; done) | (simp; omega)) (.cells #[.int .i64 4, .int .i64 1, .int .i64 0, .slice (some ⟨w.heap.size + 1 + 1, 0, none⟩) 1 1, .int .i64 0, .int .i64 0, .int .i64 0, .bool false, .int .i64 7, .int .i64 1, .int .i64 0, .slice (some ⟨w.heap.size + 1 + 1 + 1, 0, none⟩) 2 2, .int .i64 0, .int .i64 0, .int .i64 0, .bool false] 42))
  rw [s2] at L1
  replace z0 := keepc BL.out z0
  replace z1 := keepc BL.out z1
  replace HQ0 := hid (HQ0.out.below BL.out)
  have B1 := hid (B0.out.trans (BL.out.mono B0.out.size))
  refine (US.out _ _ _ _ L1).mono ?_
  rintro e w1 ⟨ub, uc, rfl, hu, b1⟩
  have HU := hid hu
  have B2 := hid (B1.out.trans (b1.mono B1.out.size))
  replace z0 := keepc b1 z0
  replace z1 := keepc b1 z1
  replace HQ0 := hid (HQ0.out.below b1)
  clear L1 s2 BL B0 B1 US b1 hu
  have L2 := LT.out w1 1 #[.int .i64 1] [1] rfl rfl (by decide)
  have BL2 := hid ((((Below.refl w1.heap.size w1).alloc (Nat.le_refl _) (.cells #[.int .i64 0] 3)).alloc (by simp) (.cells #[.int .i64 1] 3)).alloc (by first | (simp; done) | (simp; omega)) (.cells #[.int .i64 4, .int .i64 1, .int .i64 0, .slice (some ⟨w1.heap.size, 0, none⟩) 1 1, .int .i64 0, .int .i64 0, .int .i64 0, .bool false, .int .i64 7, .int .i64 1, .int .i64 0, .slice (some ⟨w1.heap.size + 1, 0, none⟩) 1 1, .int .i64 0, .int .i64 0, .int .i64 0, .bool false] 42))
  have B3 := hid (B2.out.trans (BL2.out.mono B2.out.size))
  replace z0 := keepc BL2.out z0
  replace z1 := keepc BL2.out z1
  have HC2 := hid (CH.out _ _ _ _ _ L2 (HQ0.out.below BL2.out))
  replace HU := hid (HU.out.below BL2.out)
  clear L2 BL2 LT CH HQ0
  go_wp2_with fail
  refine HC2.out.mono ?_
  rintro e w2 ⟨rfl, b2⟩
  have B4 := hid (B3.out.trans (b2.mono B3.out.size))
  obtain ⟨h1, h2, h3, h4, h5⟩ := HU.out.below b2
  obtain ⟨g, o, e, _, hc⟩ := h5 (by decide)
  cases e
  have u1 := hc 0 _ rfl 1 _ rfl
  simp only [Nat.zero_mul, Nat.add_zero, Nat.zero_add] at u1
  clear hc h1 h2 h3 h4 h5 b2 HC2 HU
  go_wp2_with fail
  go_ret
  exact ⟨rfl, B4.out⟩
end Go.Proofs.YtdbkjcnanffibaaGreat

namespace Go.Proofs.YtdbkjcnanffibaaGreat
open Go.RowKit Go.Deep Go.Maps Go.Shelf
set_option linter.unusedVariables false
set_option linter.unusedSimpArgs false

/-- Has a greater number come among the first k? -/
def putK (l : List Int) (n : Int) : Nat → Bool
  | 0 => false
  | k + 1 => putK l n k || decide (n < l[k]?.getD 0)
/-- What is laid of the first k. -/
def insK (l : List Int) (n : Int) : Nat → List Int
  | 0 => []
  | k + 1 => (if putK l n k = false ∧ n < l[k]?.getD 0 then insK l n k ++ [n] else insK l n k) ++ [l[k]?.getD 0]
/-- The document's insert. -/
def insD (l : List Int) (n : Int) : List Int := if putK l n l.length = false then insK l n l.length ++ [n] else insK l n l.length
theorem insK_le {l : List Int} {n : Int} : ∀ k, (insK l n k).length ≤ 2 * k := by
  intro k
  induction k with
  | zero => exact Nat.le_refl _
  | succ k ih =>
    unfold insK
    split <;> simp <;> omega

set_option maxRecDepth 100000 in
set_option maxHeartbeats 4000000 in
theorem rinsert_any (a : Option Addr) (len cap : Nat) (l : List Int) (n : Int) (w : World) (h : HoldsN w a len cap l) (hn : len * 32 ≤ 140737488355328) :
    Calls Tryz.prog 60 #[.slice a len cap, .int .i64 n] w fun e w' => ∃ v, e = .returned v ∧ OwnN w.heap.size w' v (insD l n).length (insD l n) ∧ Below w.heap.size w w' := by
  have HH := hid h
  have HL := hid h.1
  clear h
  go_enter Tryz.func60, Tryz.ntmps60
  go_wp2_with fail
  go_loopw [5, 6, 11] (fun s p i wr => ∃ k : Nat, k ≤ len ∧ i = .int .i64 (k : Int) ∧ p = .bool (putK l n k) ∧ Hid (OwnN w.heap.size wr s (insK l n k).length (insK l n k)) ∧ Hid (Below w.heap.size w wr)) (fun s p i _ => len - (intOf i).toNat)
  case atStart => exact ⟨0, by omega, rfl, rfl, OwnE.nil _ _ _ _ _, Below.refl _ _⟩
  case round =>
    obtain ⟨k, hk, rfl, rfl, hO, hB⟩ := hrel
    have hle := insK_le (l := l) (n := n) k
    by_cases hlt : k < len
    · obtain ⟨b, off, rfl, RI⟩ := HH.out.rowN (by omega)
      have c0 := keepc hB.out (RI k hlt)
      have ka : (0 : Int) ≤ (k : Int) := by omega
      have kb : (k : Int) < (len : Int) := by omega
      have NP : Hid (putK l n (k + 1) = (putK l n k || decide (n < l[k]?.getD 0))) := rfl
      have NI : Hid (insK l n (k + 1) = (if putK l n k = false ∧ n < l[k]?.getD 0 then insK l n k ++ [n] else insK l n k) ++ [l[k]?.getD 0]) := rfl
      clear RI
      generalize l[k]?.getD 0 = x at *
      generalize putK l n k = p at *
      generalize hm : insK l n k = m at *
      clear hm
      by_cases hp : p = false ∧ n < x
      · obtain ⟨rfl, hx⟩ := hp
        have NP2 : Hid (putK l n (k + 1) = true) := by unfold Hid; rw [NP.out]; simp [hx]
        have NI2 : Hid (insK l n (k + 1) = m ++ [n] ++ [x]) := by unfold Hid; rw [NI.out, if_pos ⟨rfl, hx⟩]
        have t : decide (n < x) = true := by simp [hx]
        clear NP NI
        go_wp2_with (at_builtin; refine push_ownE 26 3 _ 8 encN_len encN_one Tryz.underlying26 infoN rfl (by decide) wr n rfl (.tmp 22) (.tmp 24) rfl w.heap.size m.length u5 _ _ rfl rfl hO.out hB.out.size rfl (by omega) (by omega) ?_)
        intro v1 w1 h1 h2 _
        have O1 := hid h1
        have B1 := hid (hB.out.trans h2)
        clear h1 h2
        go_wp2_with (at_builtin; refine push_ownE 26 3 _ 8 encN_len encN_one Tryz.underlying26 infoN rfl (by decide) w1 x rfl (.tmp 26) (.tmp 28) rfl w.heap.size (m.length + 1) v1 _ _ rfl rfl O1.out B1.out.size rfl (by omega) (by omega) ?_)
        intro v2 w2 h1 h2 _
        have O2 := hid h1
        have B2 := hid (B1.out.trans h2)
        clear h1 h2
        go_wp2_with fail
        refine ⟨⟨k + 1, by omega, by go_num, by rw [NP2.out], by unfold Hid; rw [NI2.out]; simpa using O2.out, B2⟩, ?_⟩
        simp [intOf]; omega
      · have NP2 : Hid (putK l n (k + 1) = p) := by
          unfold Hid; rw [NP.out]
          cases p
          · have : ¬ n < x := fun hx => hp ⟨rfl, hx⟩
            simp [this]
          · rfl
        have NI2 : Hid (insK l n (k + 1) = m ++ [x]) := by unfold Hid; rw [NI.out, if_neg hp]
        clear NP NI
        cases p
        · have t : decide (n < x) = false := by simp; exact Int.not_lt.1 (fun hx => hp ⟨rfl, hx⟩)
          clear hp
          go_wp2_with (at_builtin; refine push_ownE 26 3 _ 8 encN_len encN_one Tryz.underlying26 infoN rfl (by decide) wr x rfl (.tmp 26) (.tmp 28) rfl w.heap.size m.length u5 _ _ rfl rfl hO.out hB.out.size rfl (by omega) (by omega) ?_)
          intro v2 w2 h1 h2 _
          have O2 := hid h1
          have B2 := hid (hB.out.trans h2)
          clear h1 h2
          go_wp2_with fail
          refine ⟨⟨k + 1, by omega, by go_num, by rw [NP2.out], by unfold Hid; rw [NI2.out]; simpa using O2.out, B2⟩, ?_⟩
          simp [intOf]; omega
        · clear hp
          go_wp2_with (at_builtin; refine push_ownE 26 3 _ 8 encN_len encN_one Tryz.underlying26 infoN rfl (by decide) wr x rfl (.tmp 26) (.tmp 28) rfl w.heap.size m.length u5 _ _ rfl rfl hO.out hB.out.size rfl (by omega) (by omega) ?_)
          intro v2 w2 h1 h2 _
          have O2 := hid h1
          have B2 := hid (hB.out.trans h2)
          clear h1 h2
          go_wp2_with fail
          refine ⟨⟨k + 1, by omega, by go_num, by rw [NP2.out], by unfold Hid; rw [NI2.out]; simpa using O2.out, B2⟩, ?_⟩
          simp [intOf]; omega
    · obtain rfl : k = len := by omega
      have ND : Hid (insD l n = if putK l n k = false then insK l n k ++ [n] else insK l n k) := by unfold Hid insD; rw [HL.out]
      generalize putK l n k = p at *
      generalize hm : insK l n k = m at *
      clear hm
      cases p
      · have ND2 : Hid (insD l n = m ++ [n]) := ND.out
        clear ND
        go_wp2_with (at_builtin; refine push_ownE 26 3 _ 8 encN_len encN_one Tryz.underlying26 infoN rfl (by decide) wr n rfl (.tmp 33) (.tmp 35) rfl w.heap.size m.length u5 _ _ rfl rfl hO.out hB.out.size rfl (by omega) (by omega) ?_)
        intro v2 w2 h1 h2 _
        have O2 : Hid (OwnN w.heap.size w2 v2 (insD l n).length (insD l n)) := by unfold Hid; rw [ND2.out]; simpa using h1
        have B2 := hid (hB.out.trans h2)
        clear h1 h2
        go_wp2_with fail
        go_ret
        exact ⟨_, rfl, O2.out, B2.out⟩
      · have O2 : Hid (OwnN w.heap.size wr u5 (insD l n).length (insD l n)) := by unfold Hid; rw [ND.out]; simpa using hO.out
        clear ND hO
        go_wp2_with fail
        go_ret
        exact ⟨_, rfl, O2.out, hB.out⟩
end Go.Proofs.YtdbkjcnanffibaaGreat

namespace Go.Proofs.YtdbkjcnanffibaaGreat
open Go.RowKit Go.Deep Go.Maps Go.Shelf
set_option linter.unusedVariables false
set_option linter.unusedSimpArgs false

theorem insI_low {n : Int} : ∀ {r s : List Int}, (∀ y ∈ r, y < n) → insI n (r ++ s) = r ++ insI n s := by
  intro r
  induction r with
  | nil => intro s _; rfl
  | cons y r ih =>
    intro s h
    have h1 := h y List.mem_cons_self
    rw [List.cons_append]
    show (if n < y then _ else if n = y then _ else y :: insI n (r ++ s)) = _
    rw [if_neg (by omega), if_neg (by omega), ih (fun z hz => h z (List.mem_cons_of_mem _ hz))]
    rfl
theorem insI_high {n x : Int} : ∀ {r : List Int}, (∃ y ∈ r, n < y) → n ∉ r → insI n (r ++ [x]) = insI n r ++ [x] := by
  intro r
  induction r with
  | nil => rintro ⟨y, hy, _⟩; cases hy
  | cons y r ih =>
    intro h hn
    rw [List.cons_append]
    show (if n < y then n :: y :: (r ++ [x]) else if n = y then _ else y :: insI n (r ++ [x])) = (if n < y then n :: y :: r else if n = y then _ else y :: insI n r) ++ [x]
    by_cases h1 : n < y
    · rw [if_pos h1, if_pos h1]; rfl
    · have h2 : n ≠ y := fun e => hn (by rw [e]; exact List.mem_cons_self)
      rw [if_neg h1, if_neg h1, if_neg h2, if_neg h2]
      obtain ⟨z, hz, hlt⟩ := h
      rcases List.mem_cons.1 hz with rfl | hz
      · exact absurd hlt h1
      · rw [ih ⟨z, hz, hlt⟩ (fun hm => hn (List.mem_cons_of_mem _ hm))]; rfl
theorem insI_in {n : Int} : ∀ {r : List Int}, r.Pairwise (· < ·) → n ∈ r → insI n r = r := by
  intro r
  induction r with
  | nil => intro _ h; cases h
  | cons y r ih =>
    intro hp h
    have hp' := List.pairwise_cons.1 hp
    show (if n < y then _ else if n = y then _ else y :: insI n r) = _
    rcases List.mem_cons.1 h with rfl | h
    · rw [if_neg (by omega), if_pos rfl]
    · have := hp'.1 n h
      rw [if_neg (by omega), if_neg (by omega), ih hp'.2 h]
theorem take_snocI {l : List Int} {k : Nat} (h : k < l.length) : l.take (k + 1) = l.take k ++ [l[k]?.getD 0] := by
  rw [List.take_add_one, List.getElem?_eq_getElem h]; rfl
theorem putK_iff {l : List Int} {n : Int} : ∀ {k : Nat}, k ≤ l.length → (putK l n k = true ↔ ∃ y ∈ l.take k, n < y) := by
  intro k
  induction k with
  | zero => intro _; simp [putK]
  | succ k ih =>
    intro hk
    unfold putK
    rw [take_snocI (by omega), Bool.or_eq_true, ih (by omega), decide_eq_true_eq]
    constructor
    · rintro (⟨y, hy, h⟩ | h)
      · exact ⟨y, List.mem_append.2 (.inl hy), h⟩
      · exact ⟨_, List.mem_append.2 (.inr (List.mem_singleton.2 rfl)), h⟩
    · rintro ⟨y, hy, h⟩
      rcases List.mem_append.1 hy with hy | hy
      · exact .inl ⟨y, hy, h⟩
      · rw [List.mem_singleton] at hy; subst hy; exact .inr h
theorem insK_is {l : List Int} {n : Int} (hn : n ∉ l) : ∀ {k : Nat}, k ≤ l.length → insK l n k = if putK l n k = true then insI n (l.take k) else l.take k := by
  intro k
  induction k with
  | zero => intro _; simp [putK, insK]
  | succ k ih =>
    intro hk
    have hx : l[k]?.getD 0 ∈ l := by rw [List.getElem?_eq_getElem (by omega)]; exact List.getElem_mem _
    have hne : n ≠ l[k]?.getD 0 := fun e => hn (e ▸ hx)
    have hsub : ∀ {m : Nat}, n ∉ l.take m := fun h => hn (List.mem_of_mem_take h)
    unfold insK
    rw [ih (by omega), take_snocI (by omega)]
    have hP : putK l n (k + 1) = (putK l n k || decide (n < l[k]?.getD 0)) := rfl
    rw [hP]
    cases hp : putK l n k with
    | true =>
      simp only [Bool.true_or, if_true]
      rw [if_neg (by simp), insI_high ((putK_iff (by omega)).1 hp) hsub]
    | false =>
      have hlow : ∀ y ∈ l.take k, y < n := fun y hy => by
        have h1 : ¬ n < y := fun h => by rw [(putK_iff (by omega)).2 ⟨y, hy, h⟩] at hp; cases hp
        have h2 : n ≠ y := fun e => hsub (e ▸ hy)
        omega
      by_cases hlt : n < l[k]?.getD 0
      · simp only [Bool.false_or, decide_eq_true hlt, if_true]
        rw [if_pos (by first | exact ⟨rfl, hlt⟩ | exact ⟨trivial, hlt⟩), insI_low hlow]
        show _ = _ ++ (if n < l[k]?.getD 0 then _ else _)
        rw [if_pos hlt]
        simp
      · simp only [Bool.false_or, decide_eq_false hlt]
        rw [if_neg (fun h => hlt h.2)]
        simp
theorem insD_eq {l : List Int} {n : Int} (hn : n ∉ l) : insD l n = insI n l := by
  unfold insD
  rw [insK_is hn (Nat.le_refl _), List.take_length]
  cases hp : putK l n l.length with
  | true => simp
  | false =>
    have hlow : ∀ y ∈ l, y < n := fun y hy => by
      have h1 : ¬ n < y := fun h => by rw [(putK_iff (Nat.le_refl _)).2 ⟨y, by rw [List.take_length]; exact hy, h⟩] at hp; cases hp
      have h2 : n ≠ y := fun e => hn (e ▸ hy)
      omega
    have := insI_low (s := []) hlow
    rw [List.append_nil] at this
    simp [this, insI]
/-- The queues of one lease more. -/
theorem idsT_in {l : List Le} (hok : ∀ x ∈ l, x.okB) {k : Nat} (hk : k < l.length) (h : hasN (idsT l k) (la l k).qu = true) : idsT l (k + 1) = idsT l k := insI_in (riseT hok (by omega)).1 (hasN_iff.1 h)
theorem idsT_out {l : List Le} {k : Nat} (h : hasN (idsT l k) (la l k).qu = false) : insD (idsT l k) (la l k).qu = idsT l (k + 1) := insD_eq (fun hm => by rw [hasN_iff.2 hm] at h; cases h)
theorem insI_len (n : Int) : ∀ (l : List Int), (insI n l).length ≤ l.length + 1 := by
  intro l
  induction l with
  | nil => exact Nat.le_refl _
  | cons y r ih =>
    unfold insI
    split
    · simp
    · split
      · simp
      · simp; omega
theorem idsT_len (l : List Le) : ∀ k, (idsT l k).length ≤ k := by
  intro k
  induction k with
  | zero => exact Nat.le_refl _
  | succ k ih => have := insI_len (la l k).qu (idsT l k); unfold idsT; omega
/-- Sums of leases that are right aren't below nought. -/
theorem useT_pos {l : List Le} (hg : gdB l = true) (q : Int) {k : Nat} (hk : k ≤ l.length) : 0 ≤ (useT l q k).1 ∧ 0 ≤ (useT l q k).2 := by
  rw [useT_sum l q hk]
  have := sumL_le (q := q) (List.take_sublist k l) hg
  exact ⟨this.1, this.2.2.1⟩
theorem useT_cons (l : List Le) (q : Int) (k : Nat) : useT l q (k + 1) = if (la l k).qu = q then ((useT l q k).1 + ((la l k).sl : Int), (useT l q k).2 + (la l k).me) else useT l q k := rfl
/-- The error, told by the sums of all. -/
theorem useErr_over {l : List Le} (hg : gdB l = true) {q : Int} (h : okv (useT l q l.length) = false) : useErr l = 2 := by
  unfold useErr
  rw [if_pos hg]
  cases hf : fitT l l.length with
  | true => rw [fitT_ok hf] at h; cases h
  | false => rfl
theorem useErr_fine {l : List Le} (hg : gdB l = true) (h : ∀ q ∈ idsT l l.length, okv (useT l q l.length) = true) (hok : ∀ x ∈ l, x.okB) : useErr l = 0 := by
  unfold useErr
  rw [if_pos hg, if_pos]
  refine fitT_all (fun k hk => ?_) _ (Nat.le_refl _)
  have hm : (la l k).qu ∈ idsT l l.length := by
    refine ((riseT hok (Nat.le_refl _)).2.1 _).2 ?_
    have : ∀ {m : Nat}, k < m → hasT l (la l k).qu m = true := by
      intro m
      induction m with
      | zero => intro h; omega
      | succ m ih =>
        intro h
        show (hasT l _ m || decide _) = true
        rcases Nat.lt_or_ge k m with h1 | h1
        · rw [ih h1]; rfl
        · obtain rfl : k = m := by omega
          simp
    exact this hk
  have h2 := okv_true (h _ hm)
  rw [useT_sum l _ (by omega)]
  have h1 := sumL_le (q := (la l k).qu) (List.take_sublist (k + 1) l) hg
  rw [useT_sum l _ (Nat.le_refl _), List.take_length] at h2
  obtain ⟨⟨a1, a2⟩, a3, a4⟩ := h2
  unfold okv okp
  rw [decide_eq_true_eq]
  refine ⟨⟨?_, ?_⟩, ?_, ?_⟩ <;> omega
theorem useErr_bad {l : List Le} {k : Nat} (h : k < l.length) (e : (la l k).gd = false) : useErr l = 1 := by
  unfold useErr; rw [gdB_no h e]; rfl
end Go.Proofs.YtdbkjcnanffibaaGreat

namespace Go.Proofs.YtdbkjcnanffibaaGreat
open Go.RowKit Go.Deep
set_option linter.unusedVariables false

/-- A sum over the first places. -/
def sumI (g : Nat → Int) : Nat → Int
  | 0 => 0
  | n + 1 => sumI g n + g n
theorem sumI_add (g h : Nat → Int) (n : Nat) : sumI (fun k => g k + h k) n = sumI g n + sumI h n := by
  induction n with
  | zero => rfl
  | succ n ih => simp only [sumI, ih]; omega
theorem sumI_congr {g h : Nat → Int} {n : Nat} (e : ∀ k, k < n → g k = h k) : sumI g n = sumI h n := by
  induction n with
  | zero => rfl
  | succ n ih => simp only [sumI]; rw [ih (fun k hk => e k (by omega)), e n (by omega)]
theorem sumI_zero {g : Nat → Int} {n : Nat} (e : ∀ k, k < n → g k = 0) : sumI g n = 0 := by
  induction n with
  | zero => rfl
  | succ n ih => simp only [sumI]; rw [ih (fun k hk => e k (by omega)), e n (by omega)]; rfl
theorem sumI_one (a : Int) (P n : Nat) (h : P < n) : sumI (fun k => if k = P then a else 0) n = a := by
  induction n with
  | zero => omega
  | succ n ih =>
    simp only [sumI]
    by_cases e : n = P
    · subst e
      rw [if_pos rfl, sumI_zero (fun k hk => if_neg (by omega))]
      omega
    · rw [if_neg e, ih (by omega)]
      omega

/-- A child on the way: one, or none. -/
theorem way_child {l : List Qu} (hF : Form l) {i : Nat} (hi : i < l.length) (x : Int) : ∀ P, P < l.length →
    sumI (fun k => if (qa l k).par = (qa l i).id ∧ k ∈ pth l P then x else 0) l.length = if i ∈ pth l P ∧ i ≠ P then x else 0 := by
  intro P
  induction P using Nat.strongRecOn with
  | _ P ih =>
    intro hP
    by_cases h0 : P = 0
    · subst h0
      have hr : pth l 0 = [0] := pth_root (by omega)
      rw [hr]
      rw [sumI_zero, if_neg]
      · rintro ⟨h1, h2⟩
        simp at h1
        exact h2 h1
      · intro k hk
        rw [if_neg]
        rintro ⟨h1, h2⟩
        simp at h2
        subst h2
        have := hF.id_nonneg hi
        rw [hF.root.2] at h1
        omega
    · have hu := hF.up hP h0
      have hs : pth l P = P :: pth l (pl l (qa l P).par) := pth_step hu
      have hlt : ∀ k, k ∈ pth l (pl l (qa l P).par) → k < P := fun k hk => by have := pth_le _ k hk; omega
      have hiff : (qa l P).par = (qa l i).id ↔ pl l (qa l P).par = i := by
        constructor
        · intro e; rw [e]; exact hF.pl hi
        · intro e; rw [← e]; exact (pl_id (by omega)).symm
      have ihP := ih _ hu (by omega)
      have e1 : sumI (fun k => if (qa l k).par = (qa l i).id ∧ k ∈ pth l P then x else 0) l.length = sumI (fun k => if k = P then (if (qa l P).par = (qa l i).id then x else 0) else 0) l.length + sumI (fun k => if (qa l k).par = (qa l i).id ∧ k ∈ pth l (pl l (qa l P).par) then x else 0) l.length := by
        rw [← sumI_add]
        refine sumI_congr (fun k hk => ?_)
        rw [hs]
        by_cases hkP : k = P
        · subst hkP
          have hn : ¬ k ∈ pth l (pl l (qa l k).par) := fun h => by have := hlt k h; omega
          simp [hn]
        · simp [hkP]
      rw [e1, sumI_one _ P _ hP, ihP, hs]
      by_cases hpi : pl l (qa l P).par = i
      · have h1 := hiff.2 hpi
        rw [if_pos h1, if_neg (by rintro ⟨_, h⟩; exact h hpi.symm), if_pos]
        · omega
        · refine ⟨?_, fun e => by omega⟩
          rw [hpi]
          exact List.mem_cons_of_mem _ (by rw [pth]; exact List.mem_cons_self ..)
      · have h1 : ¬ (qa l P).par = (qa l i).id := fun e => hpi (hiff.1 e)
        rw [if_neg h1]
        by_cases hm : i ∈ pth l (pl l (qa l P).par)
        · rw [if_pos ⟨hm, fun e => hpi e.symm⟩, if_pos ⟨List.mem_cons_of_mem _ hm, fun e => by have := hlt i hm; omega⟩]
          omega
        · rw [if_neg (fun h => hm h.1), if_neg]
          · omega
          · rintro ⟨h2, h3⟩
            rcases List.mem_cons.1 h2 with h2 | h2
            · exact h3 h2
            · exact hm h2
/-- What a queue with children uses is what these use together, where the uses are leaves'. -/
theorem sum_children {l : List Qu} (hF : Form l) {i : Nat} (hi : i < l.length) (hk : leafB l (qa l i).id = false) (f : Us → Int) : ∀ us : List Us, (∀ u ∈ us, useE l u = 0) →
    sumI (fun k => if (qa l k).par = (qa l i).id then sumU f l k us else 0) l.length = sumU f l i us := by
  intro us
  induction us with
  | nil => intro _; exact sumI_zero (fun k _ => by split <;> rfl)
  | cons u r ih =>
    intro h
    obtain ⟨z1, z2, _, _⟩ := useE_zero (h u (List.mem_cons_self ..))
    have hP : pl l u.qu < l.length := of_decide_eq_true z1
    have hne : i ≠ pl l u.qu := fun e => by
      have := pl_id hP
      rw [← e] at this
      rw [this, z2] at hk
      cases hk
    have e1 : sumI (fun k => if (qa l k).par = (qa l i).id then sumU f l k (u :: r) else 0) l.length = sumI (fun k => if (qa l k).par = (qa l i).id ∧ k ∈ pth l (pl l u.qu) then f u else 0) l.length + sumI (fun k => if (qa l k).par = (qa l i).id then sumU f l k r else 0) l.length := by
      rw [← sumI_add]
      refine sumI_congr (fun k _ => ?_)
      by_cases hp : (qa l k).par = (qa l i).id
      · by_cases hm : k ∈ pth l (pl l u.qu) <;> simp [hp, hm, sumU]
      · simp [hp]
    rw [e1, ih (fun x hx => h x (List.mem_cons_of_mem _ hx)), way_child hF hi (f u) _ hP]
    simp only [sumU]
    by_cases hm : i ∈ pth l (pl l u.qu)
    · rw [if_pos ⟨hm, hne⟩, if_pos hm]
    · rw [if_neg (fun h => hm h.1), if_neg hm]
/-- A leaf's uses are its own. -/
theorem leaf_way {l : List Qu} (hF : Form l) {i : Nat} (hi : i < l.length) (hk : leafB l (qa l i).id = true) {P : Nat} (hP : P < l.length) : i ∈ pth l P ↔ i = P := by
  constructor
  · intro h
    by_cases e : i = P
    · exact e
    · exfalso
      have hw := way_child hF hi 1 P hP
      rw [if_pos ⟨h, e⟩, sumI_zero] at hw
      · cases hw
      · intro k hkl
        rw [if_neg]
        rintro ⟨h1, _⟩
        unfold leafB kids at hk
        rw [List.isEmpty_iff, List.filter_eq_nil_iff] at hk
        exact hk ⟨k, hkl⟩ (List.mem_finRange _) (by simpa using h1)
  · rintro rfl
    rw [pth]; exact List.mem_cons_self ..
/-- The root has all. -/
theorem root_way {l : List Qu} (hF : Form l) : ∀ P, P < l.length → 0 ∈ pth l P := by
  intro P
  induction P using Nat.strongRecOn with
  | _ P ih =>
    intro hP
    by_cases h0 : P = 0
    · subst h0; rw [pth]; exact List.mem_cons_self ..
    · have hu := hF.up hP h0
      rw [pth_step hu]
      exact List.mem_cons_of_mem _ (ih _ hu (by omega))

end Go.Proofs.YtdbkjcnanffibaaGreat

namespace Go.Proofs.YtdbkjcnanffibaaGreat
open Go.RowKit Go.Deep Go.Maps Go.Shelf
set_option linter.unusedVariables false
set_option linter.unusedSimpArgs false

/-- A sum over numbers. -/
def sumQ (t : Int → Int) : List Int → Int
  | [] => 0
  | q :: r => t q + sumQ t r
theorem sumQ_same {t t' : Int → Int} : ∀ {l : List Int}, (∀ y ∈ l, t' y = t y) → sumQ t' l = sumQ t l := by
  intro l
  induction l with
  | nil => intro _; rfl
  | cons y r ih =>
    intro h
    show t' y + sumQ t' r = t y + sumQ t r
    rw [h y List.mem_cons_self, ih (fun z hz => h z (List.mem_cons_of_mem _ hz))]
theorem sumQ_ins {t : Int → Int} {q : Int} : ∀ {l : List Int}, q ∉ l → sumQ t (insI q l) = t q + sumQ t l := by
  intro l
  induction l with
  | nil => intro _; rfl
  | cons y r ih =>
    intro h
    have h1 : q ≠ y := fun e => h (by rw [e]; exact List.mem_cons_self)
    have h2 := ih (fun hm => h (List.mem_cons_of_mem _ hm))
    unfold insI
    by_cases h3 : q < y
    · rw [if_pos h3]; rfl
    · rw [if_neg h3, if_neg h1]
      show t y + sumQ t (insI q r) = t q + (t y + sumQ t r)
      omega
theorem sumQ_upd {t t' : Int → Int} {q d : Int} (h1 : t' q = t q + d) (h2 : ∀ y, y ≠ q → t' y = t y) : ∀ {l : List Int}, l.Pairwise (· < ·) → q ∈ l → sumQ t' l = sumQ t l + d := by
  intro l
  induction l with
  | nil => intro _ h; cases h
  | cons y r ih =>
    intro hp h
    have hp' := List.pairwise_cons.1 hp
    show t' y + sumQ t' r = t y + sumQ t r + d
    rcases List.mem_cons.1 h with rfl | h
    · rw [h1, sumQ_same (t := t) (t' := t') (fun z hz => h2 z (by have := hp'.1 z hz; omega))]; omega
    · have := hp'.1 q h
      rw [h2 y (by omega), ih hp'.2 h]; omega
/-- What the leases below a place use. -/
def cT (f : Le → Int) (l : List Qu) (i : Nat) : List Le → Int
  | [] => 0
  | x :: r => (if i ∈ pth l (pl l x.qu) then f x else 0) + cT f l i r
theorem cT_snoc (f : Le → Int) (l : List Qu) (i : Nat) (x : Le) : ∀ r : List Le, cT f l i (r ++ [x]) = cT f l i r + (if i ∈ pth l (pl l x.qu) then f x else 0) := by
  intro r
  induction r with
  | nil => simp [cT]
  | cons y r ih => simp only [List.cons_append, cT, ih]; omega
theorem cT_part {f : Le → Int} {l : List Qu} {i : Nat} {m ls : List Le} (h : m.Sublist ls) : (∀ x ∈ ls, 0 ≤ f x) → 0 ≤ cT f l i m ∧ cT f l i m ≤ cT f l i ls := by
  induction h with
  | slnil => intro _; simp [cT]
  | cons y h ih =>
    intro hg
    have h1 := ih (fun x hx => hg x (List.mem_cons_of_mem _ hx))
    have h2 := hg y List.mem_cons_self
    by_cases hc : i ∈ pth l (pl l y.qu)
    · simp only [cT, if_pos hc]; omega
    · simp only [cT, if_neg hc]; omega
  | cons_cons y h ih =>
    intro hg
    have h1 := ih (fun x hx => hg x (List.mem_cons_of_mem _ hx))
    have h2 := hg y List.mem_cons_self
    by_cases hc : i ∈ pth l (pl l y.qu)
    · simp only [cT, if_pos hc]; omega
    · simp only [cT, if_neg hc]; omega
theorem sumU_usesOf (pr : Int × Int → Int) (l : List Qu) (i : Nat) (g : Int → Int × Int) : ∀ ids : List Int, sumU (fun u => pr (u.uc, u.um)) l i (usesOf g ids) = sumQ (fun q => if i ∈ pth l (pl l q) then pr (g q) else 0) ids := by
  intro ids
  induction ids with
  | nil => rfl
  | cons q r ih =>
    show (if i ∈ pth l (pl l q) then pr (g q) else 0) + sumU (fun u => pr (u.uc, u.um)) l i (usesOf g r) = (if i ∈ pth l (pl l q) then pr (g q) else 0) + sumQ (fun q => if i ∈ pth l (pl l q) then pr (g q) else 0) r
    rw [ih]
theorem sumU_useV (pr : Int × Int → Int) (f : Le → Int) (hpr : ∀ (p : Int × Int) (x : Le), pr (p.1 + (x.sl : Int), p.2 + x.me) = pr p + f x) (h0 : pr (0, 0) = 0) (l : List Qu) (i : Nat) {ls : List Le} (hok : ∀ x ∈ ls, x.okB) : ∀ {k : Nat}, k ≤ ls.length → sumU (fun u => pr (u.uc, u.um)) l i (usesOf (fun q => useT ls q k) (idsT ls k)) = cT f l i (ls.take k) := by
  intro k
  induction k with
  | zero => intro _; simp [idsT, usesOf, sumU, cT]
  | succ k ih =>
    intro hk
    rw [List.take_add_one, la_get (by omega)]
    simp only [Option.toList_some]
    rw [cT_snoc, ← ih (by omega), sumU_usesOf, sumU_usesOf]
    have hR := riseT hok (show k ≤ ls.length by omega)
    have hu : ∀ y, y ≠ (la ls k).qu → (if i ∈ pth l (pl l y) then pr (useT ls y (k + 1)) else 0) = (if i ∈ pth l (pl l y) then pr (useT ls y k) else 0) := fun y hy => by
      rw [useT_cons, if_neg (Ne.symm hy)]
    have hq : (if i ∈ pth l (pl l (la ls k).qu) then pr (useT ls (la ls k).qu (k + 1)) else 0) = (if i ∈ pth l (pl l (la ls k).qu) then pr (useT ls (la ls k).qu k) else 0) + (if i ∈ pth l (pl l (la ls k).qu) then f (la ls k) else 0) := by
      rw [useT_cons, if_pos rfl, hpr]
      split
      · rfl
      · rfl
    by_cases hm : (la ls k).qu ∈ idsT ls k
    · have e : idsT ls (k + 1) = idsT ls k := insI_in hR.1 hm
      rw [e]
      exact sumQ_upd (t := fun q => if i ∈ pth l (pl l q) then pr (useT ls q k) else 0) (t' := fun q => if i ∈ pth l (pl l q) then pr (useT ls q (k + 1)) else 0) (q := (la ls k).qu) hq hu hR.1 hm
    · show sumQ _ (insI (la ls k).qu (idsT ls k)) = _
      rw [sumQ_ins hm, sumQ_same (t := fun q => if i ∈ pth l (pl l q) then pr (useT ls q k) else 0) (fun y hy => hu y (fun e => hm (e ▸ hy))), hq]
      have hz : useT ls (la ls k).qu k = (0, 0) := useT_no (by
        cases h : hasT ls (la ls k).qu k with
        | false => rfl
        | true => exact absurd ((hR.2.1 _).2 h) hm)
      rw [hz, h0]
      simp only [ite_self]
      omega
theorem vecAt_useV (l : List Qu) (i : Nat) {ls : List Le} (hok : ∀ x ∈ ls, x.okB) : vecAt l (useV ls) i = (cT (fun x => (x.sl : Int)) l i ls, cT Le.me l i ls) := by
  have h1 := sumU_useV Prod.fst (fun x => (x.sl : Int)) (fun _ _ => rfl) rfl l i hok (Nat.le_refl ls.length)
  have h2 := sumU_useV Prod.snd Le.me (fun _ _ => rfl) rfl l i hok (Nat.le_refl ls.length)
  rw [List.take_length] at h1 h2
  unfold vecAt useV
  exact Prod.ext h1 h2
theorem gd_pos {ls : List Le} (hg : gdB ls = true) : ∀ x ∈ ls, 0 ≤ x.me := by
  intro x hx
  unfold gdB at hg
  rw [List.all_eq_true] at hg
  have := hg x hx
  unfold Le.gd at this
  rw [Bool.and_eq_true] at this
  exact (okv_true this.2).2.1
theorem sumsE_all {l : List Qu} {us : List Us} (h : sumsE l us = 0) : ∀ u ∈ us, useE l u = 0 := by
  refine Classical.byContradiction (fun hn => ?_)
  have h1 := usesE_ne hn
  unfold sumsE at h
  by_cases hc : chkE l ≠ 0
  · rw [if_pos hc] at h; exact hc h
  · rw [if_neg hc, if_pos h1] at h; exact h1 h
theorem sumsE_mk {l : List Qu} {us : List Us} (hC : chkE l = 0) (hA : ∀ u ∈ us, useE l u = 0) (hF : fitsB l us = true) : sumsE l us = 0 := by
  unfold sumsE
  rw [if_neg (by simp [hC]), if_neg (by rw [usesE_good hA]; simp), if_neg (by rw [hF]; simp)]
theorem readE_parts {l : List Qu} {ls : List Le} (h : readE l ls = 0) : chkE l = 0 ∧ useErr ls = 0 ∧ sumsE l (useV ls) = 0 := by
  unfold readE at h
  by_cases h1 : chkE l = 0
  · rw [if_pos h1] at h
    by_cases h2 : useErr ls = 0
    · rw [if_pos h2] at h; exact ⟨h1, h2, h⟩
    · rw [if_neg h2] at h; exact absurd h h2
  · rw [if_neg h1] at h; exact absurd h h1
theorem readE_mk {l : List Qu} {ls : List Le} (h1 : chkE l = 0) (h2 : useErr ls = 0) (h3 : sumsE l (useV ls) = 0) : readE l ls = 0 := by
  unfold readE; rw [if_pos h1, if_pos h2, h3]
theorem useErr_gd {ls : List Le} (h : useErr ls = 0) : gdB ls = true ∧ fitT ls ls.length = true := by
  unfold useErr at h
  split at h
  · rename_i hg
    split at h
    · rename_i hf; exact ⟨hg, hf⟩
    · cases h
  · cases h
theorem mem_idsT {ls : List Le} (hok : ∀ x ∈ ls, x.okB) {q : Int} : q ∈ idsT ls ls.length ↔ ∃ x ∈ ls, x.qu = q := by
  rw [(riseT hok (Nat.le_refl _)).2.1 q]
  have : ∀ {m : Nat}, m ≤ ls.length → (hasT ls q m = true ↔ ∃ x ∈ ls.take m, x.qu = q) := by
    intro m
    induction m with
    | zero => intro _; simp [hasT]
    | succ m ih =>
      intro hm
      show (hasT ls q m || decide (q = (la ls m).qu)) = true ↔ _
      rw [Bool.or_eq_true, ih (by omega), decide_eq_true_eq, List.take_add_one, la_get (by omega)]
      simp only [Option.toList_some, List.mem_append, List.mem_singleton]
      constructor
      · rintro (⟨x, hx, e⟩ | e)
        · exact ⟨x, .inl hx, e⟩
        · exact ⟨_, .inr rfl, e.symm⟩
      · rintro ⟨x, hx | rfl, e⟩
        · exact .inl ⟨x, hx, e⟩
        · exact .inr e.symm
  have h := this (Nat.le_refl ls.length)
  rw [List.take_length] at h
  exact h
/-- The queue of a lease that is right is a leaf that is there. -/
theorem read_leaf {l : List Qu} {ls : List Le} (hok : ∀ x ∈ ls, x.okB) (h : readE l ls = 0) {x : Le} (hx : x ∈ ls) : hasQ l x.qu = true ∧ leafB l x.qu = true := by
  obtain ⟨h1, h2, h3⟩ := readE_parts h
  have hm : (⟨x.qu, (useT ls x.qu ls.length).1, (useT ls x.qu ls.length).2⟩ : Us) ∈ useV ls := List.mem_map.2 ⟨x.qu, (mem_idsT hok).2 ⟨x, hx, rfl⟩, rfl⟩
  have := useE_zero (sumsE_all h3 _ hm)
  exact ⟨this.1, this.2.1⟩
/-- A part of what is right is right. -/
theorem readE_part {l : List Qu} {m ls : List Le} (hok : ∀ x ∈ ls, x.okB) (hs : m.Sublist ls) (h : readE l ls = 0) : readE l m = 0 := by
  obtain ⟨h1, h2, h3⟩ := readE_parts h
  have hokm : ∀ x ∈ m, x.okB := fun x hx => hok x (hs.subset hx)
  have h2m := useErr_part hs h2
  obtain ⟨hg, hf⟩ := useErr_gd h2
  obtain ⟨hgm, hfm⟩ := useErr_gd h2m
  refine readE_mk h1 h2m (sumsE_mk h1 (fun u hu => ?_) (fitsB_yes (fun k hk => ?_)))
  · obtain ⟨q, hq, rfl⟩ := List.mem_map.1 hu
    obtain ⟨x, hx, e⟩ := (mem_idsT hokm).1 hq
    have h5 := read_leaf hok h (hs.subset hx)
    rw [e] at h5
    have h6 := fitT_ok (q := q) hfm
    unfold useE
    simp only
    rw [if_neg (by rw [h5.1]; decide), if_neg (by rw [h5.2]; decide)]
    exact chk_ok h6
  · have h5 := fits_at (sumsE_zero h3).2 hk
    rw [vecAt_useV l k hok] at h5
    rw [vecAt_useV l k hokm]
    obtain ⟨a1, a2⟩ := okv_true h5
    have b1 := cT_part (f := fun x => (x.sl : Int)) (l := l) (i := k) hs (fun x _ => Int.natCast_nonneg _)
    have b2 := cT_part (f := Le.me) (l := l) (i := k) hs (gd_pos hg)
    simp only at a1 a2
    unfold okp at a1 a2
    unfold okv okp
    rw [decide_eq_true_eq]
    refine ⟨⟨?_, ?_⟩, ?_, ?_⟩ <;> simp only <;> omega
/-- What a leaf uses is what its own leases use. -/
theorem cT_leaf {l : List Qu} {ls : List Le} (hok : ∀ x ∈ ls, x.okB) (h : readE l ls = 0) {q : Int} (hq : hasQ l q = true) (hl : leafB l q = true) : vecAt l (useV ls) (pl l q) = useT ls q ls.length := by
  rw [vecAt_useV l _ hok, useT_sum ls q (Nat.le_refl _), List.take_length]
  have hC := (readE_parts h).1
  have hF := (chkE_ok.1 hC).2.1
  have hp : pl l q < l.length := of_decide_eq_true hq
  have hall : ∀ x ∈ ls, (pl l q ∈ pth l (pl l x.qu) ↔ x.qu = q) := fun x hx => by
    have hx' := read_leaf hok h hx
    have hxp : pl l x.qu < l.length := of_decide_eq_true hx'.1
    have hid : (qa l (pl l q)).id = q := pl_id hp
    rw [leaf_way hF hp (by rw [hid]; exact hl) hxp]
    constructor
    · intro e
      have h1 : (qa l (pl l x.qu)).id = x.qu := pl_id hxp
      rw [← e, hid] at h1
      exact h1.symm
    · rintro rfl; rfl
  clear h hok
  induction ls with
  | nil => rfl
  | cons x r ih =>
    have h1 := hall x List.mem_cons_self
    have h2 := ih (fun y hy => hall y (List.mem_cons_of_mem _ hy))
    have h3 := congrArg Prod.fst h2
    have h4 := congrArg Prod.snd h2
    simp only at h3 h4
    rw [sumL_cons]
    show ((if _ then _ else 0) + cT _ l _ r, (if _ then _ else 0) + cT _ l _ r) = _
    by_cases e : x.qu = q
    · rw [if_pos (h1.2 e), if_pos (h1.2 e), if_pos e, h3, h4]
      exact Prod.ext (by simp only; omega) (by simp only; omega)
    · rw [if_neg (fun h => e (h1.1 h)), if_neg (fun h => e (h1.1 h)), if_neg e, h3, h4]
      exact Prod.ext (by simp only; omega) (by simp only; omega)
end Go.Proofs.YtdbkjcnanffibaaGreat

namespace Go.Proofs.YtdbkjcnanffibaaGreat
open Go.RowKit Go.Deep Go.Maps Go.Shelf
set_option linter.unusedVariables false
set_option linter.unusedSimpArgs false

theorem qfT_some {l : List Qu} {id : Int} {q : Qu} : ∀ {k : Nat}, qfT l id k = some q → ∃ j, j < k ∧ q = qa l j ∧ (qa l j).id = id := by
  intro k
  induction k with
  | zero => intro h; cases h
  | succ k ih =>
    intro h
    unfold qfT at h
    split at h
    · rename_i e; cases h; exact ⟨k, by omega, rfl, e⟩
    · obtain ⟨j, hj, e⟩ := ih h; exact ⟨j, by omega, e⟩
theorem qfT_has {l : List Qu} {id : Int} {j : Nat} (e : (qa l j).id = id) : ∀ {k : Nat}, j < k → qfT l id k ≠ none := by
  intro k
  induction k with
  | zero => intro h; omega
  | succ k ih =>
    intro h
    unfold qfT
    split
    · exact fun h => by cases h
    · rename_i hn
      rcases Nat.lt_or_ge j k with h1 | h1
      · exact ih h1
      · obtain rfl : j = k := by omega
        exact absurd e hn
theorem qfT_at {l : List Qu} (hF : Form l) {id : Int} (h : pl l id < l.length) : qfT l id l.length = some (qa l (pl l id)) := by
  have h1 := qfT_has (pl_id h) h
  cases hq : qfT l id l.length with
  | none => exact absurd hq h1
  | some q =>
    obtain ⟨j, hj, e1, e2⟩ := qfT_some hq
    rw [e1, id_injR hF hj h (e2.trans (pl_id h).symm)]

/-- Is a queue one whose share can be told? -/
def candOk (f : Int → Option Qu) (g : Int → Int × Int) (p q a : Int) : Prop := okv (g a) = true ∧ okw ((f a).getD q0).wt = true ∧ okv (p, q) = true
theorem candOk.sok {f : Int → Option Qu} {g : Int → Int × Int} {p q a : Int} (h : candOk f g p q a) : sok p q ((g a).1, (g a).2) ((f a).getD q0).wt := ⟨h.1, by have := h.2.1; unfold okw at this; exact (of_decide_eq_true this).1, h.2.2⟩
theorem ordQ_lev {f : Int → Option Qu} {g : Int → Int × Int} {p q a b : Int} (ha : candOk f g p q a) (hb : candOk f g p q b) : ordQ f g a b p q = lev (g a).1 (g a).2 ((f a).getD q0).wt (g b).1 (g b).2 ((f b).getD q0).wt p q := by
  unfold ordQ ordV
  rw [if_pos]
  unfold leok
  obtain ⟨a1, a2, a3⟩ := ha
  obtain ⟨b1, b2, _⟩ := hb
  simp only [List.all_cons, List.all_nil, Bool.and_true, Bool.and_eq_true]
  exact ⟨⟨a1, b1, a3⟩, a2, b2⟩
theorem ordQ_turn {f : Int → Option Qu} {g : Int → Int × Int} {p q a b : Int} (ha : candOk f g p q a) (hb : candOk f g p q b) : ordQ f g b a p q = -ordQ f g a b p q := by
  rw [ordQ_lev ha hb, ordQ_lev hb ha, lev_turn]
theorem ordQ_trans {f : Int → Option Qu} {g : Int → Int × Int} {p q a b c : Int} (ha : candOk f g p q a) (hb : candOk f g p q b) (hc : candOk f g p q c) (h1 : ordQ f g a b p q ≤ 0) (h2 : ordQ f g b c p q ≤ 0) : ordQ f g a c p q ≤ 0 := by
  rw [ordQ_lev ha hb] at h1
  rw [ordQ_lev hb hc] at h2
  rw [ordQ_lev ha hc]
  exact lev_trans ha.sok hb.sok hc.sok h1 h2
theorem bef_iff {f : Int → Option Qu} {g : Int → Int × Int} {s a t b p q : Int} : befB f g s a t b p q = true ↔ (a = b ∧ t < s) ∨ (a ≠ b ∧ (0 < ordQ f g a b p q ∨ (ordQ f g a b p q = 0 ∧ a < b))) := by
  unfold befB
  by_cases e : a = b
  · simp [e]
  · simp [e]
theorem bef_irr {f : Int → Option Qu} {g : Int → Int × Int} {s a p q : Int} : befB f g s a s a p q = false := by unfold befB; rw [if_pos rfl]; simp
theorem bef_trans {f : Int → Option Qu} {g : Int → Int × Int} {s a t b u c p q : Int} (ha : candOk f g p q a) (hb : candOk f g p q b) (hc : candOk f g p q c) (h1 : befB f g s a t b p q = true) (h2 : befB f g t b u c p q = true) : befB f g s a u c p q = true := by
  rw [bef_iff] at h1 h2 ⊢
  have t1 := ordQ_turn ha hb
  have t2 := ordQ_turn hb hc
  have t3 := ordQ_turn ha hc
  have r1 := ordQ_trans hc hb ha
  have r2 := ordQ_trans ha hc hb
  have r3 := ordQ_trans hb ha hc
  rcases h1 with ⟨rfl, h1⟩ | ⟨n1, h1⟩
  · rcases h2 with ⟨rfl, h2⟩ | ⟨n2, h2⟩
    · exact .inl ⟨rfl, by omega⟩
    · exact .inr ⟨n2, h2⟩
  · rcases h2 with ⟨rfl, h2⟩ | ⟨n2, h2⟩
    · exact .inr ⟨n1, h1⟩
    · by_cases e : a = c
      · exfalso
        subst e
        generalize ordQ f g a b p q = x1 at *
        generalize ordQ f g b a p q = x2 at *
        omega
      · refine .inr ⟨e, ?_⟩
        generalize ordQ f g a b p q = x1 at *
        generalize ordQ f g b c p q = x2 at *
        generalize ordQ f g a c p q = x3 at *
        generalize ordQ f g b a p q = y1 at *
        generalize ordQ f g c b p q = y2 at *
        generalize ordQ f g c a p q = y3 at *
        have k1 : y3 ≤ 0 := r1 (by omega) (by omega)
        by_cases h0 : x3 ≤ 0
        · have k2 := r2 h0 (by omega)
          have k3 := r3 (by omega) h0
          omega
        · omega
theorem greT_none {f : Int → Option Qu} {g : Int → Int × Int} {p q : Int} {l : List Le} : ∀ {k : Nat}, greT f g p q l k = none → ∀ j, j < k → mayB f g (la l j).qu ((la l j).sl : Int) (la l j).me = false := by
  intro k
  induction k with
  | zero => intro _ j hj; omega
  | succ k ih =>
    intro h j hj
    unfold greT at h
    split at h
    · split at h
      · cases h
      · split at h <;> cases h
    · rename_i hm
      rcases Nat.lt_or_ge j k with h1 | h1
      · exact ih h j h1
      · obtain rfl : j = k := by omega
        simpa using hm
theorem greT_best {f : Int → Option Qu} {g : Int → Int × Int} {p q : Int} {l : List Le} {b : Le} : ∀ {k : Nat}, k ≤ l.length → (∀ j, j < k → candOk f g p q (la l j).qu) → greT f g p q l k = some b →
    (∃ j, j < k ∧ b = la l j) ∧ mayB f g b.qu (b.sl : Int) b.me = true ∧ ∀ j, j < k → mayB f g (la l j).qu ((la l j).sl : Int) (la l j).me = true → befB f g (la l j).ta (la l j).qu b.ta b.qu p q = false := by
  intro k
  induction k generalizing b with
  | zero => intro _ _ h; cases h
  | succ k ih =>
    intro hk hc h
    unfold greT at h
    split at h
    · rename_i hm
      split at h
      · rename_i hn
        cases h
        refine ⟨⟨k, by omega, rfl⟩, hm, fun j hj hj2 => ?_⟩
        rcases Nat.lt_or_ge j k with h1 | h1
        · rw [greT_none hn j h1] at hj2; cases hj2
        · obtain rfl : j = k := by omega
          exact bef_irr
      · rename_i b' hs
        obtain ⟨⟨j', hj', e'⟩, hm', hb'⟩ := ih (by omega) (fun j hj => hc j (by omega)) hs
        split at h
        · rename_i hbf
          cases h
          refine ⟨⟨k, by omega, rfl⟩, hm, fun j hj hj2 => ?_⟩
          rcases Nat.lt_or_ge j k with h1 | h1
          · cases hx : befB f g (la l j).ta (la l j).qu (la l k).ta (la l k).qu p q with
            | false => rfl
            | true =>
              have := bef_trans (hc j (by omega)) (hc k (by omega)) (by rw [e']; exact hc j' (by omega)) hx hbf
              rw [hb' j h1 hj2] at this
              cases this
          · obtain rfl : j = k := by omega
            exact bef_irr
        · rename_i hbf
          cases h
          refine ⟨⟨j', by omega, e'⟩, hm', fun j hj hj2 => ?_⟩
          rcases Nat.lt_or_ge j k with h1 | h1
          · exact hb' j h1 hj2
          · obtain rfl : j = k := by omega
            simpa using hbf
    · rename_i hm
      obtain ⟨⟨j', hj', e'⟩, hm', hb'⟩ := ih (by omega) (fun j hj => hc j (by omega)) h
      refine ⟨⟨j', by omega, e'⟩, hm', fun j hj hj2 => ?_⟩
      rcases Nat.lt_or_ge j k with h1 | h1
      · exact hb' j h1 hj2
      · obtain rfl : j = k := by omega
        exact absurd hj2 hm
/-- What queues and leases that are right tell of each lease's queue. -/
theorem cand_of {l : List Qu} {m : List Le} {p q : Int} (hok : ∀ x ∈ m, x.okB) (h1 : readE l m = 0) (hc : chk p q = 0) {x : Le} (hx : x ∈ m) : candOk (fun id => qfT l id l.length) (fun i => useT m i m.length) p q x.qu := by
  have h2 := read_leaf hok h1 hx
  have hC := (readE_parts h1).1
  have hG := chkE_ok.1 hC
  have hp : pl l x.qu < l.length := of_decide_eq_true h2.1
  refine ⟨fitT_ok (useErr_gd (readE_parts h1).2.1).2, ?_, ?_⟩
  · simp only
    rw [qfT_at hG.2.1 hp]
    exact (arg_at hG.2.2.1 (by unfold qa; rw [List.getElem?_eq_getElem hp]; exact List.getElem_mem hp)).1
  · unfold chk at hc
    split at hc
    · rename_i h; unfold okv; exact decide_eq_true h
    · cases hc
end Go.Proofs.YtdbkjcnanffibaaGreat

namespace Go.Proofs.YtdbkjcnanffibaaGreat
open Go.RowKit Go.Deep Go.Maps Go.Shelf
set_option linter.unusedVariables false
set_option linter.unusedSimpArgs false

/-- The greatest task of the first k leases that may yield so. -/
def lastC (y : Le → Bool) (m : List Le) : Nat → Option Int
  | 0 => none
  | k + 1 => if y (la m k) = true then (match lastC y m k with
    | none => some (la m k).ta
    | some t => if t < (la m k).ta then some (la m k).ta else some t) else lastC y m k
/-- May a lease of the queue at a place yield? -/
def yB (l : List Qu) (us : List Us) (k : Nat) (x : Le) : Bool := decide (x.qu = (qa l k).id) && fitB (qa l k).mc (qa l k).mm ((vecAt l us k).1 - (x.sl : Int)) ((vecAt l us k).2 - x.me)
/-- How the shares of the queues at two places stand. -/
def lessK (l : List Qu) (us : List Us) (p q : Int) (k j : Nat) : Int := lev (vecAt l us k).1 (vecAt l us k).2 (qa l k).wt (vecAt l us j).1 (vecAt l us j).2 (qa l j).wt p q
/-- The best queue, and its task, of the first k queues. -/
def docT (l : List Qu) (us : List Us) (m : List Le) (p q : Int) : Nat → Int × Int
  | 0 => (-1, -1)
  | k + 1 => match lastC (yB l us k) m m.length with
    | none => docT l us m p q k
    | some t => if (docT l us m p q k).1 < 0 ∨ 0 < lessK l us p q k (pl l (docT l us m p q k).1) then ((qa l k).id, t) else docT l us m p q k
theorem lastC_none {y : Le → Bool} {m : List Le} : ∀ {k : Nat}, lastC y m k = none → ∀ j, j < k → y (la m j) = false := by
  intro k
  induction k with
  | zero => intro _ j hj; omega
  | succ k ih =>
    intro h j hj
    unfold lastC at h
    split at h
    · split at h
      · cases h
      · split at h <;> cases h
    · rename_i hy
      rcases Nat.lt_or_ge j k with h1 | h1
      · exact ih h j h1
      · obtain rfl : j = k := by omega
        simpa using hy
theorem lastC_some {y : Le → Bool} {m : List Le} {t : Int} : ∀ {k : Nat}, lastC y m k = some t → (∃ j, j < k ∧ y (la m j) = true ∧ (la m j).ta = t) ∧ ∀ j, j < k → y (la m j) = true → (la m j).ta ≤ t := by
  intro k
  induction k generalizing t with
  | zero => intro h; cases h
  | succ k ih =>
    intro h
    unfold lastC at h
    split at h
    · rename_i hy
      split at h
      · rename_i hn
        cases h
        refine ⟨⟨k, by omega, hy, rfl⟩, fun j hj hj2 => ?_⟩
        rcases Nat.lt_or_ge j k with h1 | h1
        · rw [lastC_none hn j h1] at hj2; cases hj2
        · obtain rfl : j = k := by omega
          exact Int.le_refl _
      · rename_i t' hs
        obtain ⟨⟨j', hj', hy', e'⟩, hb⟩ := ih hs
        split at h
        · rename_i hlt
          cases h
          refine ⟨⟨k, by omega, hy, rfl⟩, fun j hj hj2 => ?_⟩
          rcases Nat.lt_or_ge j k with h1 | h1
          · have := hb j h1 hj2; omega
          · obtain rfl : j = k := by omega
            exact Int.le_refl _
        · rename_i hlt
          cases h
          refine ⟨⟨j', by omega, hy', e'⟩, fun j hj hj2 => ?_⟩
          rcases Nat.lt_or_ge j k with h1 | h1
          · exact hb j h1 hj2
          · obtain rfl : j = k := by omega
            omega
    · rename_i hy
      obtain ⟨⟨j', hj', hy', e'⟩, hb⟩ := ih h
      refine ⟨⟨j', by omega, hy', e'⟩, fun j hj hj2 => ?_⟩
      rcases Nat.lt_or_ge j k with h1 | h1
      · exact hb j h1 hj2
      · obtain rfl : j = k := by omega
        exact absurd hj2 hy
/-- What is told of the first k queues. -/
theorem docT_inv {l : List Qu} {us : List Us} {m : List Le} {p q : Int} (hF : Form l) (ht : ∀ a b, a < l.length → b < l.length → lessK l us p q b a = -lessK l us p q a b) (htr : ∀ a b c, a < l.length → b < l.length → c < l.length → lessK l us p q a b ≤ 0 → lessK l us p q b c ≤ 0 → lessK l us p q a c ≤ 0) : ∀ {k : Nat}, k ≤ l.length →
    (docT l us m p q k = (-1, -1) ∧ ∀ j, j < k → lastC (yB l us j) m m.length = none) ∨
    ∃ b t, b < k ∧ docT l us m p q k = ((qa l b).id, t) ∧ lastC (yB l us b) m m.length = some t ∧ ∀ j, j < k → lastC (yB l us j) m m.length ≠ none → lessK l us p q j b ≤ 0 ∧ (lessK l us p q j b = 0 → b ≤ j) := by
  intro k
  induction k with
  | zero => intro _; exact .inl ⟨rfl, fun j hj => by omega⟩
  | succ k ih =>
    intro hk
    have hkk : lessK l us p q k k = 0 := by have := ht k k (by omega) (by omega); omega
    cases hc : lastC (yB l us k) m m.length with
    | none =>
      have e : docT l us m p q (k + 1) = docT l us m p q k := by
        show (match lastC (yB l us k) m m.length with | none => _ | some t => _) = _
        rw [hc]
      rw [e]
      rcases ih (by omega) with ⟨h1, h2⟩ | ⟨b, t, hb, h1, h2, h3⟩
      · refine .inl ⟨h1, fun j hj => ?_⟩
        rcases Nat.lt_or_ge j k with h | h
        · exact h2 j h
        · obtain rfl : j = k := by omega
          exact hc
      · refine .inr ⟨b, t, by omega, h1, h2, fun j hj hj2 => ?_⟩
        rcases Nat.lt_or_ge j k with h | h
        · exact h3 j h hj2
        · obtain rfl : j = k := by omega
          exact absurd hc hj2
    | some t0 =>
      have e : docT l us m p q (k + 1) = if (docT l us m p q k).1 < 0 ∨ 0 < lessK l us p q k (pl l (docT l us m p q k).1) then ((qa l k).id, t0) else docT l us m p q k := by
        show (match lastC (yB l us k) m m.length with | none => _ | some t => _) = _
        rw [hc]
      rw [e]
      rcases ih (by omega) with ⟨h1, h2⟩ | ⟨b, t, hb, h1, h2, h3⟩
      · rw [if_pos (.inl (by rw [h1]; decide))]
        refine .inr ⟨k, t0, by omega, rfl, hc, fun j hj hj2 => ?_⟩
        rcases Nat.lt_or_ge j k with h | h
        · exact absurd (h2 j h) hj2
        · obtain rfl : j = k := by omega
          exact ⟨by omega, fun _ => Nat.le_refl _⟩
      · have hid := hF.id_nonneg (show b < l.length by omega)
        have hpl : pl l (docT l us m p q k).1 = b := by rw [h1]; exact hF.pl (by omega)
        rw [hpl]
        by_cases hlt : 0 < lessK l us p q k b
        · rw [if_pos (.inr hlt)]
          refine .inr ⟨k, t0, by omega, rfl, hc, fun j hj hj2 => ?_⟩
          rcases Nat.lt_or_ge j k with h | h
          · obtain ⟨g1, g2⟩ := h3 j h hj2
            have u1 := ht k b (by omega) (by omega)
            have u2 := ht j k (by omega) (by omega)
            have v1 := htr j b k (by omega) (by omega) (by omega) g1 (by omega)
            refine ⟨v1, fun hz => ?_⟩
            exfalso
            have v2 := htr k j b (by omega) (by omega) (by omega) (by omega) g1
            omega
          · obtain rfl : j = k := by omega
            exact ⟨by omega, fun _ => Nat.le_refl _⟩
        · rw [if_neg (by rw [h1]; simp only; omega)]
          refine .inr ⟨b, t, by omega, h1, h2, fun j hj hj2 => ?_⟩
          rcases Nat.lt_or_ge j k with h | h
          · exact h3 j h hj2
          · obtain rfl : j = k := by omega
            exact ⟨by omega, fun _ => by omega⟩
theorem gd_at {m : List Le} (hg : gdB m = true) {x : Le} (hx : x ∈ m) : okv ((x.sl : Int), x.me) = true := by
  unfold gdB at hg
  rw [List.all_eq_true] at hg
  have := hg x hx
  unfold Le.gd at this
  rw [Bool.and_eq_true] at this
  exact this.2
theorem may_y {l : List Qu} {m : List Le} (hok : ∀ x ∈ m, x.okB) (h : readE l m = 0) {x : Le} (hx : x ∈ m) {k : Nat} (hk : k < l.length) (e : x.qu = (qa l k).id) :
    mayB (fun id => qfT l id l.length) (fun i => useT m i m.length) x.qu (x.sl : Int) x.me = yB l (useV m) k x ∧ vecAt l (useV m) k = useT m x.qu m.length ∧ qfT l x.qu l.length = some (qa l k) := by
  have hF := (chkE_ok.1 (readE_parts h).1).2.1
  have hp : pl l x.qu = k := by rw [e]; exact hF.pl hk
  have h2 := read_leaf hok h hx
  have hv : vecAt l (useV m) k = useT m x.qu m.length := by rw [← hp]; exact cT_leaf hok h h2.1 h2.2
  have hq : qfT l x.qu l.length = some (qa l k) := by rw [qfT_at hF (by omega), hp]
  refine ⟨?_, hv, hq⟩
  obtain ⟨hg, hf⟩ := useErr_gd (readE_parts h).2.1
  have ho := fitT_ok (q := x.qu) hf
  have hxg := gd_at hg hx
  have hs := sumL_le (q := x.qu) (List.singleton_sublist.2 hx) hg
  have e1 : sumL x.qu [x] = ((x.sl : Int), x.me) := by rw [sumL_cons, if_pos rfl]; simp [sumL]
  have e2 := useT_sum m x.qu (Nat.le_refl _)
  rw [List.take_length] at e2
  rw [e1, ← e2] at hs
  unfold mayB yB
  rw [hv, e, decide_eq_true rfl, Bool.true_and, ← e]
  simp only [hq, Option.getD_some]
  generalize useT m x.qu m.length = G at *
  obtain ⟨g1, g2⟩ := G
  simp only at *
  have o1 := okv_true ho
  have o2 := okv_true hxg
  unfold okp at o1 o2
  simp only at o1 o2
  have od : okv (g1 - (x.sl : Int), g2 - x.me) = true := by
    unfold okv okp
    rw [decide_eq_true_eq]
    refine ⟨⟨?_, ?_⟩, ?_, ?_⟩ <;> simp only <;> omega
  rw [(rop_yes (s := (g1 - (x.sl : Int), g2 - x.me)) (by simp [ho, hxg])).1]
  unfold rin
  rw [if_pos od]
theorem less_ok {l : List Qu} {m : List Le} {p q : Int} (h : readE l m = 0) (hc : chk p q = 0) {k : Nat} (hk : k < l.length) : sok p q ((vecAt l (useV m) k).1, (vecAt l (useV m) k).2) (qa l k).wt := by
  obtain ⟨h1, h2, h3⟩ := readE_parts h
  have hG := chkE_ok.1 h1
  have hw := (arg_at hG.2.2.1 (show qa l k ∈ l by unfold qa; rw [List.getElem?_eq_getElem hk]; exact List.getElem_mem hk)).1
  unfold okw at hw
  refine ⟨fits_at (sumsE_zero h3).2 hk, (of_decide_eq_true hw).1, ?_⟩
  unfold chk at hc
  split at hc
  · rename_i h; unfold okv; exact decide_eq_true h
  · cases hc
set_option maxHeartbeats 1000000 in
/-- The document's choice is the code's. -/
theorem choose_eq {l : List Qu} {m : List Le} {p q : Int} (hok : ∀ x ∈ m, x.okB) (h : readE l m = 0) (hc : chk p q = 0) :
    docT l (useV m) m p q l.length = ((greT (fun id => qfT l id l.length) (fun i => useT m i m.length) p q m m.length).map (fun b => (b.qu, b.ta))).getD (-1, -1) := by
  have hF := (chkE_ok.1 (readE_parts h).1).2.1
  have hcd : ∀ j, j < m.length → candOk (fun id => qfT l id l.length) (fun i => useT m i m.length) p q (la m j).qu := fun j hj => cand_of hok h hc (la_mem hj)
  have hpl : ∀ j, j < m.length → pl l (la m j).qu < l.length ∧ (la m j).qu = (qa l (pl l (la m j).qu)).id := fun j hj => by
    have h2 := (read_leaf hok h (la_mem hj)).1
    have hp : pl l (la m j).qu < l.length := of_decide_eq_true h2
    exact ⟨hp, (pl_id hp).symm⟩
  have hinv := docT_inv (m := m) (p := p) (q := q) (us := useV m) hF (fun a b ha hb => lev_turn _ _ _ _ _ _ _ _) (fun a b c ha hb hcc g1 g2 => lev_trans (less_ok h hc ha) (less_ok h hc hb) (less_ok h hc hcc) g1 g2) (Nat.le_refl l.length)
  rcases hinv with ⟨h1, h2⟩ | ⟨bk, t, hb, h1, h2, h3⟩
  · rw [h1]
    cases hg : greT (fun id => qfT l id l.length) (fun i => useT m i m.length) p q m m.length with
    | none => rfl
    | some b =>
      exfalso
      obtain ⟨⟨j, hj, e⟩, hm, _⟩ := greT_best (Nat.le_refl _) hcd hg
      obtain ⟨p1, p2⟩ := hpl j hj
      have y1 := lastC_none (h2 _ p1) j hj
      rw [e, (may_y hok h (la_mem hj) p1 p2).1, y1] at hm
      cases hm
  · rw [h1]
    obtain ⟨⟨j, hj, hy, et⟩, hmax⟩ := lastC_some h2
    have ex : (la m j).qu = (qa l bk).id := by
      unfold yB at hy
      rw [Bool.and_eq_true, decide_eq_true_eq] at hy
      exact hy.1
    obtain ⟨m1, m2, m3⟩ := may_y hok h (la_mem hj) hb ex
    rw [hy] at m1
    cases hg : greT (fun id => qfT l id l.length) (fun i => useT m i m.length) p q m m.length with
    | none => exact absurd m1 (by rw [greT_none hg j hj]; decide)
    | some b =>
      obtain ⟨⟨j', hj', e⟩, hm, hbf⟩ := greT_best (Nat.le_refl _) hcd hg
      obtain ⟨p1, p2⟩ := hpl j' hj'
      obtain ⟨n1, n2, n3⟩ := may_y hok h (la_mem hj') p1 p2
      rw [e, n1] at hm
      have hne : lastC (yB l (useV m) (pl l (la m j').qu)) m m.length ≠ none := fun hn => by rw [lastC_none hn j' hj'] at hm; cases hm
      obtain ⟨g1, g2⟩ := h3 _ p1 hne
      have b1 := hbf j hj m1
      have hno : ¬ (befB (fun id => qfT l id l.length) (fun i => useT m i m.length) (la m j).ta (la m j).qu b.ta b.qu p q = true) := by rw [b1]; decide
      rw [bef_iff] at hno
      have ho : ordQ (fun id => qfT l id l.length) (fun i => useT m i m.length) (la m j).qu (la m j').qu p q = lessK l (useV m) p q bk (pl l (la m j').qu) := by
        rw [ordQ_lev (hcd j hj) (hcd j' hj')]
        unfold lessK
        rw [m2, n2]
        simp only [m3, n3, Option.getD_some]
      have ht : lessK l (useV m) p q bk (pl l (la m j').qu) = -lessK l (useV m) p q (pl l (la m j').qu) bk := lev_turn _ _ _ _ _ _ _ _
      have hq : (la m j).qu = (la m j').qu := by
        refine Classical.byContradiction (fun hn => hno (.inr ⟨by rw [e]; exact hn, ?_⟩))
        rw [e, ho]
        by_cases hz : lessK l (useV m) p q (pl l (la m j').qu) bk = 0
        · refine .inr ⟨by omega, ?_⟩
          have hle := g2 hz
          have hne2 : bk ≠ pl l (la m j').qu := fun h => hn (by rw [ex, p2, ← h])
          rw [ex, p2]
          exact hF.rise (by omega) p1
        · exact .inl (by omega)
      have hbk : pl l (la m j').qu = bk := by rw [← hq, ex]; exact hF.pl hb
      have t1 := hmax j' hj' (by rw [← hbk]; exact hm)
      have t2 : (la m j).ta ≤ b.ta := by
        refine Classical.byContradiction (fun hn => hno (.inl ⟨by rw [e]; exact hq, by omega⟩))
      simp only [Option.map_some, Option.getD_some]
      rw [e] at t2 ⊢
      exact Prod.ext (by simp only; rw [← ex, hq]) (by simp only; omega)
end Go.Proofs.YtdbkjcnanffibaaGreat

namespace Go.Proofs.YtdbkjcnanffibaaGreat
open Go.RowKit Go.Deep Go.Maps Go.Shelf
set_option linter.unusedVariables false
set_option linter.unusedSimpArgs false

/-- What 'Uses' tells: nothing beside an error. -/
def uvL (m : List Le) : List Us := if useErr m = 0 then useV m else []
theorem uvL_yes {m : List Le} (h : useErr m = 0) : uvL m = useV m := by unfold uvL; rw [if_pos h]
/-- Does what a queue uses by leases cover its Min? -/
def covB (l : List Qu) (m : List Le) (id : Int) : Bool := decide (sumsE l (uvL m) = 0) && (hasQ l id && fitB (qa l (pl l id)).mc (qa l (pl l id)).mm (vecAt l (uvL m) (pl l id)).1 (vecAt l (uvL m) (pl l id)).2)
/-- A list without what stands at a place. -/
def wo (m : List Le) (i : Nat) : List Le := m.take i ++ m.drop (i + 1)
theorem wo_sub (m : List Le) (i : Nat) : (wo m i).Sublist m := by
  unfold wo
  have h1 : (m.drop (i + 1)).Sublist (m.drop i) := by
    rw [← List.drop_drop]
    exact List.drop_sublist _ _
  have h2 := List.Sublist.append (List.Sublist.refl (m.take i)) h1
  rw [List.take_append_drop] at h2
  exact h2
theorem sumL_append (q : Int) (b : List Le) : ∀ a : List Le, sumL q (a ++ b) = ((sumL q a).1 + (sumL q b).1, (sumL q a).2 + (sumL q b).2) := by
  intro a
  induction a with
  | nil => exact Prod.ext (by simp [sumL]) (by simp [sumL])
  | cons x r ih =>
    rw [List.cons_append, sumL_cons, sumL_cons, ih]
    by_cases e : x.qu = q
    · rw [if_pos e, if_pos e]; exact Prod.ext (by simp only; omega) (by simp only; omega)
    · rw [if_neg e, if_neg e]
theorem sumL_wo {m : List Le} {i : Nat} (hi : i < m.length) : sumL (la m i).qu (wo m i) = ((sumL (la m i).qu m).1 - ((la m i).sl : Int), (sumL (la m i).qu m).2 - (la m i).me) := by
  have e : m = m.take i ++ (la m i :: m.drop (i + 1)) := by
    have h1 : m.drop i = la m i :: m.drop (i + 1) := by
      rw [List.drop_eq_getElem_cons hi]
      have : la m i = m[i] := by unfold la; rw [List.getElem?_eq_getElem hi]; rfl
      rw [this]
    rw [← h1, List.take_append_drop]
  have h2 : sumL (la m i).qu m = sumL (la m i).qu (m.take i ++ (la m i :: m.drop (i + 1))) := congrArg _ e
  rw [h2]
  unfold wo
  rw [sumL_append, sumL_append, sumL_cons, if_pos rfl]
  exact Prod.ext (by simp only; omega) (by simp only; omega)
/-- Without a lease its queue covers its Min just where that lease may yield. -/
theorem cov_may {l : List Qu} {m : List Le} (hok : ∀ x ∈ m, x.okB) (h : readE l m = 0) {i : Nat} (hi : i < m.length) :
    covB l (wo m i) (la m i).qu = mayB (fun id => qfT l id l.length) (fun i => useT m i m.length) (la m i).qu ((la m i).sl : Int) (la m i).me := by
  have hx := la_mem hi
  have h2 := read_leaf hok h hx
  have hp : pl l (la m i).qu < l.length := of_decide_eq_true h2.1
  have hw := readE_part hok (wo_sub m i) h
  have hokw : ∀ x ∈ wo m i, x.okB := fun x hx => hok x ((wo_sub m i).subset hx)
  obtain ⟨w1, w2, w3⟩ := readE_parts hw
  obtain ⟨m1, m2, m3⟩ := may_y hok h hx hp (pl_id hp).symm
  rw [m1]
  unfold covB
  rw [uvL_yes w2, w3, h2.1]
  have hl : vecAt l (useV (wo m i)) (pl l (la m i).qu) = ((vecAt l (useV m) (pl l (la m i).qu)).1 - ((la m i).sl : Int), (vecAt l (useV m) (pl l (la m i).qu)).2 - (la m i).me) := by
    rw [cT_leaf hokw hw h2.1 h2.2, m2, useT_sum _ _ (Nat.le_refl _), List.take_length, useT_sum _ _ (Nat.le_refl _), List.take_length, sumL_wo hi]
  rw [hl]
  unfold yB
  rw [pl_id hp]
  simp
/-- Has one of the first k leases this task, and may it yield? -/
def fndK (l : List Qu) (m : List Le) (t : Int) : Nat → Bool
  | 0 => false
  | k + 1 => fndK l m t k || (decide ((la m k).ta = t) && covB l (wo m k) (la m k).qu)
theorem fndK_yes {l : List Qu} {m : List Le} {t : Int} {j : Nat} (h1 : (la m j).ta = t) (h2 : covB l (wo m j) (la m j).qu = true) : ∀ {k : Nat}, j < k → fndK l m t k = true := by
  intro k
  induction k with
  | zero => intro h; omega
  | succ k ih =>
    intro h
    unfold fndK
    rcases Nat.lt_or_ge j k with h3 | h3
    · rw [ih h3]; rfl
    · obtain rfl : j = k := by omega
      rw [h1, h2]; simp
theorem lastL_sub (ls : List Le) : (lastL ls).Sublist ls := by rw [lastL_eq]; exact List.filter_sublist
/-- The victim is found. -/
theorem best_found {l : List Qu} {ls : List Le} {p q : Int} (hok : ∀ x ∈ ls, x.okB) (h : readE l ls = 0) (hc : chk p q = 0) {b : Le} (hb : bestL l ls p q = some b) : fndK l (lastL ls) b.ta (lastL ls).length = true := by
  have hokm : ∀ x ∈ lastL ls, x.okB := fun x hx => hok x ((lastL_sub ls).subset hx)
  have hm := readE_part hok (lastL_sub ls) h
  obtain ⟨⟨j, hj, e⟩, hmay, _⟩ := greT_best (Nat.le_refl _) (fun j hj => cand_of hokm hm hc (la_mem hj)) hb
  rw [e] at hmay ⊢
  exact fndK_yes rfl ((cov_may hokm hm hj).trans hmay) hj
/-- Where there is none none may go. -/
theorem none_may {l : List Qu} {ls : List Le} {p q : Int} (hok : ∀ x ∈ ls, x.okB) (h : readE l ls = 0) (hb : bestL l ls p q = none) {j : Nat} (hj : j < (lastL ls).length) : covB l (wo (lastL ls) j) (la (lastL ls) j).qu = false := by
  have hokm : ∀ x ∈ lastL ls, x.okB := fun x hx => hok x ((lastL_sub ls).subset hx)
  rw [cov_may hokm (readE_part hok (lastL_sub ls) h) hj]
  exact greT_none hb j hj
/-- Is all that is handed in of the form? -/
def vicB (l : List Qu) (ls : List Le) (p q : Int) : Bool := decide (useErr ls = 0) && (decide (sumsE l (uvL ls) = 0) && okv (p, q))
theorem vic_read {l : List Qu} {ls : List Le} {p q : Int} (h : vicB l ls p q = true) : readE l ls = 0 ∧ chk p q = 0 := by
  unfold vicB at h
  rw [Bool.and_eq_true, Bool.and_eq_true, decide_eq_true_eq, decide_eq_true_eq] at h
  obtain ⟨h1, h2, h3⟩ := h
  rw [uvL_yes h1] at h2
  exact ⟨readE_mk (sumsE_zero h2).1 h1 h2, chk_ok h3⟩
theorem lastL_last (ls : List Le) : lastL (lastL ls) = lastL ls := by rw [lastL_eq (lastL ls), lastL_eq, List.filter_filter]; simp
/-- Leases that don't last are as if they weren't there. -/
theorem stops_eq {l : List Qu} {ls : List Le} {p q : Int} (hok : ∀ x ∈ ls, x.okB) (h : readE l ls = 0) : chsE l (lastL ls) p q = chsE l ls p q ∧ chsT l (lastL ls) p q = chsT l ls p q := by
  have hm := readE_part hok (lastL_sub ls) h
  have hb : bestL l (lastL ls) p q = bestL l ls p q := by unfold bestL; rw [lastL_last]
  unfold chsE chsT
  rw [hm, h, hb]
  exact ⟨rfl, rfl⟩
end Go.Proofs.YtdbkjcnanffibaaGreat

namespace Go.Proofs.YtdbkjcnanffibaaGreat
open Go.RowKit Go.Deep Go.Maps Go.Shelf
set_option linter.unusedVariables false
set_option linter.unusedSimpArgs false

theorem ret_b {a b : Bool} (h : a = b) : Ending.returned (.bool b) = Ending.returned (.bool a) := by rw [h]
/-- The list of 'Uses', told by what it is, also beside an error. -/
theorem AnsS.isU {lo : Nat} {w : World} {v : Value} {l : List Le} (hok : ∀ x ∈ l, x.okB) (h : AnsS lo w v (useErr l) l) : OwnE 44 3 Us.cs lo w v (uvL l).length (uvL l) := by
  unfold uvL
  by_cases e : useErr l = 0
  · rw [if_pos e]; exact (h.is hok e).1
  · rw [if_neg e]
    rcases h with ⟨_, rfl⟩ | ⟨h, _⟩
    · exact OwnE.nil _ _ _ _ _
    · exact absurd h e
theorem uvL_le {l : List Le} : (uvL l).length ≤ l.length := by
  unfold uvL
  split
  · unfold useV; rw [usesOf_len]; exact idsT_len l l.length
  · simp
theorem uvL_q {l : List Le} (hok : ∀ x ∈ l, x.okB) : ∀ u ∈ uvL l, I64 u.qu := by
  unfold uvL
  split
  · exact useV_q hok
  · intro u hu; cases hu

theorem nequ_same (a b c : Int) (w : World) : Sem.run Tryz.prog (binOp BinOp.neq 44 (.agg #[.int .i64 a, .int .i64 b, .int .i64 c]) (.agg #[.int .i64 a, .int .i64 b, .int .i64 c])) w = .ok (.bool false) w := by
  have hS : Tryz.prog.underlying 44 = some (.struct (Tryz.prog.fieldsOf 44)) := by kernel_rfl
  have hp : Tryz.prog.stoodInHeld 44 = false := by kernel_rfl
  have hS2 : Tryz.prog.underlying 33 = some (.struct (Tryz.prog.fieldsOf 33)) := by kernel_rfl
  have hp2 : Tryz.prog.stoodInHeld 33 = false := by kernel_rfl
  have u3 := Tryz.underlying3
  have a3 := Tryz.isAgg3
  have z3 := Tryz.sizeOf3
  have u2 := Tryz.underlying2
  have a2 := Tryz.isAgg2
  have z2 := Tryz.sizeOf2
  have a24 := Tryz.isAgg33
  have z24 := Tryz.sizeOf33
  have e24 : ∀ (d : Nat) (x y : Int) (w : World), (Op.equalIn (d + 2) 33 (.agg #[.int .i64 x, .int .i64 y]) (.agg #[.int .i64 x, .int .i64 y])).run Tryz.prog w = .ok true w := fun d x y w => by
    rw [run_equalIn_agg w (d + 1) 33 _ _ hS2 hp2]
    simp only [Program.fieldsOf, Tryz.underlying33]
    go_simp
  rw [run_neq_struct, show (10000 : Nat) = 9999 + 1 from rfl, run_equalIn_agg w 9999 44 _ _ hS hp]
  simp only [Program.fieldsOf, Tryz.underlying44]
  go_simp

end Go.Proofs.YtdbkjcnanffibaaGreat
