/-
  Contracts of victim: what leases use; sums in a map; amount.
-/
import Derived.Test.YtdbkjcnanffibaaLE
import Derived.Test.YtdbkjcnanffibaaVD
namespace Go.Proofs.Ytdbkjcnanffibaa
open Go.RowKit Go.Deep Go.Maps
set_option linter.unusedVariables false
set_option linter.unusedSimpArgs false

/-- Is a lease within its bounds? -/
def Le.gd (x : Le) : Bool := decide (x.sl ≤ 64) && okv ((x.sl : Int), x.me)
/-- What the first k leases of a queue use. -/
def useT (l : List Le) (q : Int) : Nat → Int × Int
  | 0 => (0, 0)
  | k + 1 => if (la l k).qu = q then ((useT l q k).1 + ((la l k).sl : Int), (useT l q k).2 + (la l k).me) else useT l q k
/-- Has the queue one of the first k leases? -/
def hasT (l : List Le) (q : Int) : Nat → Bool
  | 0 => false
  | k + 1 => hasT l q k || decide (q = (la l k).qu)
theorem useT_no {l : List Le} {q : Int} : ∀ {k : Nat}, hasT l q k = false → useT l q k = (0, 0) := by
  intro k
  induction k with
  | zero => intro _; rfl
  | succ k ih =>
    intro h
    unfold hasT at h
    rw [Bool.or_eq_false_iff] at h
    unfold useT
    rw [if_neg (fun e => by simp [e] at h), ih h.1]
/-- Are all leases right? -/
def gdB (l : List Le) : Bool := l.all Le.gd
/-- Do the first k leases' sums stay within their bounds? -/
def fitT (l : List Le) : Nat → Bool
  | 0 => true
  | k + 1 => fitT l k && okv (useT l (la l k).qu (k + 1))
/-- The error of a list of leases. -/
def useErr (l : List Le) : Int := if gdB l = true then (if fitT l l.length = true then 0 else 2) else 1
theorem fitT_le {l : List Le} {k : Nat} (h : fitT l k = false) : ∀ n, k ≤ n → fitT l n = false := by
  intro n
  induction n with
  | zero => intro hk; obtain rfl : k = 0 := by omega
            exact h
  | succ n ih =>
    intro hk
    rcases Nat.lt_or_ge k (n + 1) with h1 | h1
    · unfold fitT; rw [ih (by omega)]; rfl
    · obtain rfl : k = n + 1 := by omega
      exact h
theorem okv_zero : okv (0, 0) = true := by decide
theorem fitT_ok {l : List Le} {q : Int} : ∀ {k : Nat}, fitT l k = true → okv (useT l q k) = true := by
  intro k
  induction k with
  | zero => intro _; exact okv_zero
  | succ k ih =>
    intro h
    unfold fitT at h
    rw [Bool.and_eq_true] at h
    by_cases e : (la l k).qu = q
    · rw [← e]; exact h.2
    · unfold useT; rw [if_neg e]; exact ih h.1

/-- How an amount in a map reads. -/
def vd (p : Int × Int) : DataW Unit := .agg [.lit (.int .i64 p.1), .lit (.int .i64 p.2)]
def vecElem (v : Value) : Option (DataW Unit × List MemPlace) :=
  match v with
  | .agg a => (match a.toList with
    | [.int .i64 c, .int .i64 d] => some (vd (c, d), [])
    | _ => none)
  | _ => none
theorem vecElem_mk (a b : Int) : vecElem (.agg #[.int .i64 a, .int .i64 b]) = some (vd (a, b), []) := rfl
theorem vecElem_inv {v : Value} {a b : Int} {ps : List MemPlace} (h : vecElem v = some (vd (a, b), ps)) : v = .agg #[.int .i64 a, .int .i64 b] := by
  unfold vecElem at h
  split at h
  · rename_i cs
    split at h
    · rename_i c d e
      simp [vd] at h
      obtain ⟨cs⟩ := cs
      simp only at e
      subst e
      rw [h.1.1, h.1.2]
    · cases h
  · cases h
/-- Sums of queues in a map. -/
def UM (w : World) (b n : Nat) (h : Int → Bool) (f : Int → Int × Int) : Prop := ∃ D : DataW Unit, w.ownsMap Try.prog 3 vecElem b n D ∧ ∀ id : Int, Maps.has D (.int .i64 id) = h id ∧ D.atKey (.int .i64 id) (vd (0, 0)) = vd (f id)
theorem UM.same {w w' : World} {b n : Nat} {f : Int → Bool} {g : Int → Int × Int} (h : UM w b n f g) (hb : w'.heap[b]? = w.heap[b]?) : UM w' b n f g := by
  obtain ⟨D, ⟨es, clock, h1, h2⟩, h3⟩ := h
  exact ⟨D, ⟨es, clock, hb.trans h1, h2⟩, h3⟩
theorem UM.lt {w : World} {b n : Nat} {f : Int → Bool} {g : Int → Int × Int} (h : UM w b n f g) : b < w.heap.size := by
  obtain ⟨D, ⟨es, clock, h1, h2⟩, h3⟩ := h
  exact (Array.getElem?_eq_some_iff.1 h1).1
theorem UM.below {w w' : World} {b n : Nat} {f : Int → Bool} {g : Int → Int × Int} (h : UM w b n f g) (hb : Below w.heap.size w w') : UM w' b n f g := h.same (hb.block b h.lt)
theorem UM.alloc {w : World} {b n : Nat} {f : Int → Bool} {g : Int → Int × Int} (h : UM w b n f g) (o : Obj) : UM (w.alloc o) b n f g := h.same (Below.heap_alloc _ _ _ h.lt)
theorem lawV : Keyed Try.prog 3 := int_keyed Try.underlying3
theorem wfV {x : Int} (h : I64 x) : (Lit.int .i64 x).wf = true := WalkArith.wf_i64 h
theorem keyV {x : Int} (h : I64 x) : keyOf Try.prog 3 (.int .i64 x) = some (.int .i64 x) := keyOf_int_mk Try.underlying3 (wfV h)
theorem zeroV (w : World) : (zeroValue 32).run Try.prog w = .ok (.agg #[.int .i64 0, .int .i64 0]) w := by kernel_rfl
theorem UM.look {w : World} {b n : Nat} {f : Int → Bool} {g : Int → Int × Int} {x : Int} (h : UM w b n f g) (hx : I64 x) : Sem.run Try.prog (Instr.lookup 56 (.map (some b)) (.int .i64 x) false) w = .ok (.agg #[.int .i64 (g x).1, .int .i64 (g x).2]) w := by
  obtain ⟨D, hown, hD⟩ := h
  obtain ⟨v, ps, hrun, hv⟩ := hown.lookup lawV Try.underlying56 (zeroV _) (zd := vd (0, 0)) (zp := []) (vecElem_mk 0 0) (keyV hx)
  rw [(hD x).2] at hv
  obtain rfl := vecElem_inv (a := (g x).1) (b := (g x).2) hv
  exact hrun
theorem UM.put {w : World} {b n : Nat} {f : Int → Bool} {g : Int → Int × Int} {x c m : Int} (h : UM w b n f g) (hx : I64 x) (hn : n < maxLen) : ∃ w', Sem.run Try.prog (Instr.mapUpdate 56 (.map (some b)) (.int .i64 x) (.agg #[.int .i64 c, .int .i64 m])) w = .ok () w' ∧ UM w' b (n + 1) (fun y => f y || decide (y = x)) (fun y => if x = y then (c, m) else g y) ∧ w.grownBy w' (some b) := by
  obtain ⟨D, hown, hD⟩ := h
  obtain ⟨w', hrun, h1, h2⟩ := hown.update lawV Try.underlying56 hn (keyV hx) (d := vd (c, m)) (ps := []) (vecElem_mk c m)
  refine ⟨w', hrun, ⟨_, h1, fun id => ?_⟩, h2⟩
  by_cases e : id = x
  · subst e
    rw [has_put_same hown.isMap (by trivial), atKey_put_same hown.isMap (by trivial)]
    simp
  · have hne : (Lit.int .i64 id) ≠ .int .i64 x := fun h => e (by injection h)
    rw [has_put_other hne, atKey_put_other hne, (hD id).1, (hD id).2]
    simp [e, Ne.symm e]
theorem um_made (w : World) : UM (w.alloc (.map #[] 0)) w.heap.size 0 (fun _ => false) (fun _ => (0, 0)) := ⟨_, World.ownsMap_made _ _ _ _, fun id => ⟨by simp [Maps.has], by simp [DataW.atKey]⟩⟩

/-- The value of a lease. -/
def Le.val (x : Le) : Value := .agg #[.int .i64 x.ta, .int .i64 x.qu, .int .i64 x.no, .slice x.sa x.sl x.sc, .int .i64 x.me, .int .i64 x.si, .int .i64 x.un, .bool x.st]
set_option maxHeartbeats 1000000 in
theorem amount_any (c0 c1 c2 c4 c5 c6 : Int) (sa : Option Addr) (sl sc : Nat) (st : Bool) (w : World) :
    Calls Try.prog 34 #[.agg #[.int .i64 c0, .int .i64 c1, .int .i64 c2, .slice sa sl sc, .int .i64 c4, .int .i64 c5, .int .i64 c6, .bool st]] w fun e w' => e = .returned (.agg #[.int .i64 (sl : Int), .int .i64 c4]) ∧ Below w.heap.size w w' := by
  go_enter Try.func34, Try.ntmps34
  go_wp2_with fail
  exact bodyPost_ret (v := .agg #[.int .i64 (sl : Int), .int .i64 c4]) (by simp [results, Try.results34, go_sem]) rfl ⟨rfl, (by repeat (first | exact Below.refl _ _ | assumption | refine Below.alloc ?_ (by simp <;> omega) _ | refine Below.setCell ?_ (by simp <;> omega) _ | refine Below.drew ?_ | refine below_drewN ?_ _))⟩
end Go.Proofs.Ytdbkjcnanffibaa
