/-
  Contracts of victim: what leases use; sums in a map; amount.
  Contracts of victim: sums of leases.
  Contracts of victim: the queues of sums, sorted.
  Contracts of victim: what leaves use, as a list.
  Contracts of victim: Uses, lasting.
  Contracts of victim: read.
  Contracts of victim: read, the whole.
  Contracts of victim: may a lease yield?
  Contracts of victim: lasting.
-/
import Derived.Test.YtdbkjcnanffibaaGreatLE
import Derived.Test.YtdbkjcnanffibaaGreatVD
import Derived.Deep.RegionHeld
import Derived.Deep.Cut
import Derived.Deep.RegionHeld3
import Derived.BigQuiet
import Derived.Shelf.SlIterI.Nil
import Derived.Shelf.SortM.Plain
import Derived.Shelf.SortM.SortNone
import Derived.Maps.OwnSet
import Derived.Test.YtdbkjcnanffibaaGreatQV
import Derived.Test.YtdbkjcnanffibaaGreatRU
import Derived.Test.YtdbkjcnanffibaaGreatQK
import Derived.Test.YtdbkjcnanffibaaGreatVB
namespace Go.Proofs.YtdbkjcnanffibaaGreat
open Go.RowKit Go.Deep Go.Maps
set_option linter.unusedVariables false
set_option linter.unusedSimpArgs false

/-- Is a lease within its bounds? -/
def Le.gd (x : Le) : Bool := decide (x.sl ≤ 64) && okv ((x.sl : Int), x.me)
/-- What the first k leases of a queue use. -/
def useT (l : List Le) (q : Int) : Nat → Int × Int
  | 0 => (0, 0)
  | k + 1 => if (la l k).qu = q then ((useT l q k).1 + ((la l k).sl : Int), (useT l q k).2 + (la l k).me) else useT l q k
/-- Has the queue one of the first k leases? -/
def hasT (l : List Le) (q : Int) : Nat → Bool
  | 0 => false
  | k + 1 => hasT l q k || decide (q = (la l k).qu)
theorem useT_no {l : List Le} {q : Int} : ∀ {k : Nat}, hasT l q k = false → useT l q k = (0, 0) := by
  intro k
  induction k with
  | zero => intro _; rfl
  | succ k ih =>
    intro h
    unfold hasT at h
    rw [Bool.or_eq_false_iff] at h
    unfold useT
    rw [if_neg (fun e => by simp [e] at h), ih h.1]
/-- Are all leases right? -/
def gdB (l : List Le) : Bool := l.all Le.gd
/-- Do the first k leases' sums stay within their bounds? -/
def fitT (l : List Le) : Nat → Bool
  | 0 => true
  | k + 1 => fitT l k && okv (useT l (la l k).qu (k + 1))
/-- The error of a list of leases. -/
def useErr (l : List Le) : Int := if gdB l = true then (if fitT l l.length = true then 0 else 2) else 1
theorem fitT_le {l : List Le} {k : Nat} (h : fitT l k = false) : ∀ n, k ≤ n → fitT l n = false := by
  intro n
  induction n with
  | zero => intro hk; obtain rfl : k = 0 := by omega
            exact h
  | succ n ih =>
    intro hk
    rcases Nat.lt_or_ge k (n + 1) with h1 | h1
    · unfold fitT; rw [ih (by omega)]; rfl
    · obtain rfl : k = n + 1 := by omega
      exact h
theorem okv_zero : okv (0, 0) = true := by decide
theorem fitT_ok {l : List Le} {q : Int} : ∀ {k : Nat}, fitT l k = true → okv (useT l q k) = true := by
  intro k
  induction k with
  | zero => intro _; exact okv_zero
  | succ k ih =>
    intro h
    unfold fitT at h
    rw [Bool.and_eq_true] at h
    by_cases e : (la l k).qu = q
    · rw [← e]; exact h.2
    · unfold useT; rw [if_neg e]; exact ih h.1

/-- How an amount in a map reads. -/
def vd (p : Int × Int) : DataW Unit := .agg [.lit (.int .i64 p.1), .lit (.int .i64 p.2)]
def vecElem (v : Value) : Option (DataW Unit × List MemPlace) :=
  match v with
  | .agg a => (match a.toList with
    | [.int .i64 c, .int .i64 d] => some (vd (c, d), [])
    | _ => none)
  | _ => none
theorem vecElem_mk (a b : Int) : vecElem (.agg #[.int .i64 a, .int .i64 b]) = some (vd (a, b), []) := rfl
theorem vecElem_inv {v : Value} {a b : Int} {ps : List MemPlace} (h : vecElem v = some (vd (a, b), ps)) : v = .agg #[.int .i64 a, .int .i64 b] := by
  unfold vecElem at h
  split at h
  · rename_i cs
    split at h
    · rename_i c d e
      simp [vd] at h
      obtain ⟨cs⟩ := cs
      simp only at e
      subst e
      rw [h.1.1, h.1.2]
    · cases h
  · cases h
/-- Sums of queues in a map. -/
def UM (w : World) (b n : Nat) (h : Int → Bool) (f : Int → Int × Int) : Prop := ∃ D : DataW Unit, w.ownsMap Tryz.prog 3 vecElem b n D ∧ ∀ id : Int, Maps.has D (.int .i64 id) = h id ∧ D.atKey (.int .i64 id) (vd (0, 0)) = vd (f id)
theorem UM.same {w w' : World} {b n : Nat} {f : Int → Bool} {g : Int → Int × Int} (h : UM w b n f g) (hb : w'.heap[b]? = w.heap[b]?) : UM w' b n f g := by
  obtain ⟨D, ⟨es, clock, h1, h2⟩, h3⟩ := h
  exact ⟨D, ⟨es, clock, hb.trans h1, h2⟩, h3⟩
theorem UM.lt {w : World} {b n : Nat} {f : Int → Bool} {g : Int → Int × Int} (h : UM w b n f g) : b < w.heap.size := by
  obtain ⟨D, ⟨es, clock, h1, h2⟩, h3⟩ := h
  exact (Array.getElem?_eq_some_iff.1 h1).1
theorem UM.below {w w' : World} {b n : Nat} {f : Int → Bool} {g : Int → Int × Int} (h : UM w b n f g) (hb : Below w.heap.size w w') : UM w' b n f g := h.same (hb.block b h.lt)
theorem UM.alloc {w : World} {b n : Nat} {f : Int → Bool} {g : Int → Int × Int} (h : UM w b n f g) (o : Obj) : UM (w.alloc o) b n f g := h.same (Below.heap_alloc _ _ _ h.lt)
theorem lawV : Keyed Tryz.prog 3 := int_keyed Tryz.underlying3
theorem wfV {x : Int} (h : I64 x) : (Lit.int .i64 x).wf = true := WalkArith.wf_i64 h
theorem keyV {x : Int} (h : I64 x) : keyOf Tryz.prog 3 (.int .i64 x) = some (.int .i64 x) := keyOf_int_mk Tryz.underlying3 (wfV h)
theorem zeroV (w : World) : (zeroValue 33).run Tryz.prog w = .ok (.agg #[.int .i64 0, .int .i64 0]) w := by kernel_rfl
theorem UM.look {w : World} {b n : Nat} {f : Int → Bool} {g : Int → Int × Int} {x : Int} (h : UM w b n f g) (hx : I64 x) : Sem.run Tryz.prog (Instr.lookup 47 (.map (some b)) (.int .i64 x) false) w = .ok (.agg #[.int .i64 (g x).1, .int .i64 (g x).2]) w := by
  obtain ⟨D, hown, hD⟩ := h
  obtain ⟨v, ps, hrun, hv⟩ := hown.lookup lawV Tryz.underlying47 (zeroV _) (zd := vd (0, 0)) (zp := []) (vecElem_mk 0 0) (keyV hx)
  rw [(hD x).2] at hv
  obtain rfl := vecElem_inv (a := (g x).1) (b := (g x).2) hv
  exact hrun
theorem UM.put {w : World} {b n : Nat} {f : Int → Bool} {g : Int → Int × Int} {x c m : Int} (h : UM w b n f g) (hx : I64 x) (hn : n < maxLen) : ∃ w', Sem.run Tryz.prog (Instr.mapUpdate 47 (.map (some b)) (.int .i64 x) (.agg #[.int .i64 c, .int .i64 m])) w = .ok () w' ∧ UM w' b (n + 1) (fun y => f y || decide (y = x)) (fun y => if x = y then (c, m) else g y) ∧ w.grownBy w' (some b) := by
  obtain ⟨D, hown, hD⟩ := h
  obtain ⟨w', hrun, h1, h2⟩ := hown.update lawV Tryz.underlying47 hn (keyV hx) (d := vd (c, m)) (ps := []) (vecElem_mk c m)
  refine ⟨w', hrun, ⟨_, h1, fun id => ?_⟩, h2⟩
  by_cases e : id = x
  · subst e
    rw [has_put_same hown.isMap (by trivial), atKey_put_same hown.isMap (by trivial)]
    simp
  · have hne : (Lit.int .i64 id) ≠ .int .i64 x := fun h => e (by injection h)
    rw [has_put_other hne, atKey_put_other hne, (hD id).1, (hD id).2]
    simp [e, Ne.symm e]
theorem um_made (w : World) : UM (w.alloc (.map #[] 0)) w.heap.size 0 (fun _ => false) (fun _ => (0, 0)) := ⟨_, World.ownsMap_made _ _ _ _, fun id => ⟨by simp [Maps.has], by simp [DataW.atKey]⟩⟩

/-- The value of a lease. -/
def Le.val (x : Le) : Value := .agg #[.int .i64 x.ta, .int .i64 x.qu, .int .i64 x.no, .slice x.sa x.sl x.sc, .int .i64 x.me, .int .i64 x.si, .int .i64 x.un, .bool x.st]
set_option maxHeartbeats 1000000 in
theorem amount_any (c0 c1 c2 c4 c5 c6 : Int) (sa : Option Addr) (sl sc : Nat) (st : Bool) (w : World) :
    Calls Tryz.prog 41 #[.agg #[.int .i64 c0, .int .i64 c1, .int .i64 c2, .slice sa sl sc, .int .i64 c4, .int .i64 c5, .int .i64 c6, .bool st]] w fun e w' => e = .returned (.agg #[.int .i64 (sl : Int), .int .i64 c4]) ∧ Below w.heap.size w w' := by
  go_enter Tryz.func41, Tryz.ntmps41
  go_wp2_with fail
  exact bodyPost_ret (v := .agg #[.int .i64 (sl : Int), .int .i64 c4]) (by simp [results, Tryz.results41, go_sem]) rfl ⟨rfl, (by repeat (first | exact Below.refl _ _ | assumption | refine Below.alloc ?_ (by simp <;> omega) _ | refine Below.setCell ?_ (by simp <;> omega) _ | refine Below.drew ?_ | refine below_drewN ?_ _))⟩
end Go.Proofs.YtdbkjcnanffibaaGreat

namespace Go.Proofs.YtdbkjcnanffibaaGreat
open Go.RowKit Go.Deep Go.Maps
set_option linter.unusedVariables false
set_option linter.unusedSimpArgs false

/-- What 'add' answers. -/
def AnsU (lo : Nat) (w : World) (v : Value) (er : Int) (l : List Le) : Prop :=
  (er ≠ 0 ∧ v = .map none) ∨ (er = 0 ∧ ∃ b, v = .map (some b) ∧ lo ≤ b ∧ UM w b l.length (fun q => hasT l q l.length) (fun q => useT l q l.length))
theorem gdB_at {l : List Le} (h : ∀ j, j < l.length → (la l j).gd = true) : gdB l = true := by
  unfold gdB
  rw [List.all_eq_true]
  intro x hx
  obtain ⟨j, hj, rfl⟩ := List.mem_iff_getElem.1 hx
  have := h j hj
  unfold la at this
  rwa [List.getElem?_eq_getElem hj] at this
theorem gdB_no {l : List Le} {j : Nat} (h : j < l.length) (e : (la l j).gd = false) : gdB l = false := by
  unfold gdB
  rw [List.all_eq_false]
  exact ⟨_, la_mem h, by simp [e]⟩
theorem ret_u {v : Value} {a b : Int} (h : a = b) : Ending.returned (.tuple #[v, .int .i64 b]) = .returned (.tuple #[v, .int .i64 a]) := by rw [h]
theorem gdB_one {l : List Le} (h : gdB l = true) {j : Nat} (hj : j < l.length) : okv (((la l j).sl : Int), (la l j).me) = true := by
  unfold gdB at h
  rw [List.all_eq_true] at h
  have := h _ (la_mem hj)
  unfold Le.gd at this
  rw [Bool.and_eq_true] at this
  exact this.2
theorem le_gd_no {x : Le} (h : 64 < x.sl) : x.gd = false := by unfold Le.gd; rw [decide_eq_false (by omega)]; rfl
theorem le_gd_at {x : Le} (h : x.sl ≤ 64) : x.gd = okv ((x.sl : Int), x.me) := by unfold Le.gd; rw [decide_eq_true h]; rfl

set_option maxRecDepth 100000 in
set_option maxHeartbeats 4000000 in
theorem uadd_any (a : Option Addr) (len cap : Nat) (l : List Le) (w : World) (h : HoldsL w a len cap l) (hok : ∀ x ∈ l, x.okB) :
    Calls Tryz.prog 24 #[.slice a len cap] w fun e w' => ∃ v, e = .returned (.tuple #[v, .int .i64 (useErr l)]) ∧ AnsU w.heap.size w' v (useErr l) l ∧ Below w.heap.size w w' := by
  have HQ := hid h
  have HL := hid h.1.1
  have hcap := h.1.2.1
  have hcm := h.1.2.2.1
  have HO := hid hok
  clear h hok
  go_enter Tryz.func24, Tryz.ntmps24
  go_wp2_with fail
  go_loopw [13] (fun i wr => ∃ k : Nat, k ≤ len ∧ i = .int .i64 (k : Int) ∧ Hid (∀ j, j < k → (la l j).gd = true) ∧ Hid (Below w.heap.size w wr)) (fun i _ => len - (intOf i).toNat)
  case atStart => exact ⟨0, by omega, rfl, fun j hj => absurd hj (by omega), Below.refl _ _⟩
  case round =>
    obtain ⟨k, hk, rfl, hall, hB⟩ := hrel
    by_cases hlt : k < len
    · have hlt' : k < l.length := by rw [HL.out]; exact hlt
      obtain ⟨b, off, rfl, hbl, Rw⟩ := HQ.out.1.rowL (by omega)
      obtain ⟨d1, d2, d3, d4, d5, d6, d7, d8⟩ := Rw k hlt
      have c1 := keepc hB.out d1
      have c2 := keepc hB.out d2
      have c3 := keepc hB.out d3
      have c4 := keepc hB.out d4
      have c5 := keepc hB.out d5
      have c6 := keepc hB.out d6
      have c7 := keepc hB.out d7
      have c8 := keepc hB.out d8
      have ka : (0 : Int) ≤ (k : Int) := by omega
      have kb : (k : Int) < (len : Int) := by omega
      clear d1 d2 d3 d4 d5 d6 d7 d8 Rw
      by_cases h64 : 64 < (la l k).sl
      · have ER : Hid (useErr l = 1) := by unfold Hid useErr; rw [gdB_no hlt' (le_gd_no h64)]; rfl
        clear hall
        generalize hx : la l k = x at *
        clear hx
        obtain ⟨x1, x2, x3, sa, sl, sc, x5, x6, x7, x8, co⟩ := x
        simp only at h64 c1 c2 c3 c4 c5 c6 c7 c8
        have t : decide ((64 : Int) < (sl : Int)) = true := by simp; omega
        go_wp2_with fail
        go_ret2
        exact ⟨_, ret_u ER.out, .inl ⟨by rw [ER.out]; decide, rfl⟩, hB.out.alloc hB.out.size _⟩
      · have h64' : (la l k).sl ≤ 64 := by omega
        have t : decide ((64 : Int) < ((la l k).sl : Int)) = false := by simp; omega
        have GD := hid (le_gd_at h64')
        clear h64 h64'
        cases hv : okv (((la l k).sl : Int), (la l k).me)
        · have ER : Hid (useErr l = 1) := by unfold Hid useErr; rw [gdB_no hlt' (GD.out.trans hv)]; rfl
          have hc := chk_no hv
          have t2 : (chk ((la l k).sl : Int) (la l k).me != 0) = true := by rw [hc]; decide
          clear hall GD hv hc
          generalize hx : la l k = x at *
          clear hx
          obtain ⟨x1, x2, x3, sa, sl, sc, x5, x6, x7, x8, co⟩ := x
          simp only at t t2 c1 c2 c3 c4 c5 c6 c7 c8
          have CA := hid (fun W => check_any (sl : Int) x5 W)
          generalize chk (sl : Int) x5 = CK at *
          go_wp2_with fail
          refine (amount_any _ _ _ _ _ _ _ _ _ _ _).mono ?_
          rintro e y1 ⟨rfl, b1⟩
          have B1 := hid ((hB.out.alloc hB.out.size _).trans (b1.mono (hB.out.alloc hB.out.size _).size))
          go_wp2_with fail
          refine (CA.out _).mono ?_
          rintro e y2 ⟨rfl, b2⟩
          have B2 := hid (B1.out.trans (b2.mono B1.out.size))
          clear b1 b2 B1
          go_wp2_with fail
          go_ret2
          exact ⟨_, ret_u ER.out, .inl ⟨by rw [ER.out]; decide, rfl⟩, B2.out⟩
        · have hc := chk_ok hv
          have t2 : (chk ((la l k).sl : Int) (la l k).me != 0) = false := by rw [hc]; decide
          have AL : Hid (∀ j, j < k + 1 → (la l j).gd = true) := by
            intro j hj
            rcases Nat.lt_or_ge j k with h | h
            · exact hall.out j h
            · obtain rfl : j = k := by omega
              exact GD.out.trans hv
          clear hall GD hv hc
          generalize hx : la l k = x at *
          have HX := hid hx
          clear hx
          obtain ⟨x1, x2, x3, sa, sl, sc, x5, x6, x7, x8, co⟩ := x
          simp only at t t2 c1 c2 c3 c4 c5 c6 c7 c8
          have CA := hid (fun W => check_any (sl : Int) x5 W)
          generalize chk (sl : Int) x5 = CK at *
          go_wp2_with fail
          refine (amount_any _ _ _ _ _ _ _ _ _ _ _).mono ?_
          rintro e y1 ⟨rfl, b1⟩
          have B1 := hid ((hB.out.alloc hB.out.size _).trans (b1.mono (hB.out.alloc hB.out.size _).size))
          go_wp2_with fail
          refine (CA.out _).mono ?_
          rintro e y2 ⟨rfl, b2⟩
          have B2 := hid (B1.out.trans (b2.mono B1.out.size))
          clear b1 b2 B1
          go_wp2_with fail
          refine ⟨⟨k + 1, by omega, by go_num, AL, B2⟩, ?_⟩
          simp [intOf]; omega
    · obtain rfl : k = len := by omega
      have GB : Hid (gdB l = true) := gdB_at (fun j hj => hall.out j (by rw [HL.out] at hj; exact hj))
      have hmm := @run_makeMap Tryz.prog
      have BM : Hid (Below w.heap.size w (wr.alloc (.map #[] 0))) := hB.out.alloc hB.out.size _
      have UM0 : Hid (UM (wr.alloc (.map #[] 0)) wr.heap.size 0 (fun q => hasT l q 0) (fun q => useT l q 0)) := um_made wr
      have MB := hid hB.out.size
      have hcm2 : k ≤ 9223372036854775807 := by omega
      clear hall hB
      go_wp2_with fail
      generalize hM : wr.heap.size = M at *
      clear hM
      go_loopw [31] (fun i wz => ∃ j : Nat, j ≤ k ∧ i = .int .i64 (j : Int) ∧ Hid (fitT l j = true) ∧ Hid (UM wz M j (fun q => hasT l q j) (fun q => useT l q j)) ∧ Hid (Below w.heap.size w wz)) (fun i _ => k - (intOf i).toNat)
      case atStart => exact ⟨0, by omega, rfl, rfl, UM0, BM⟩
      case round =>
        obtain ⟨j, hj, rfl, hfit, hU, hB⟩ := hrel
        clear UM0 BM
        by_cases hlt : j < k
        · have hlt' : j < l.length := by rw [HL.out]; exact hlt
          obtain ⟨b, off, rfl, hbl, Rw⟩ := HQ.out.1.rowL (by omega)
          obtain ⟨d1, d2, d3, d4, d5, d6, d7, d8⟩ := Rw j hlt
          have c1 := keepc hB.out d1
          have c2 := keepc hB.out d2
          have c3 := keepc hB.out d3
          have c4 := keepc hB.out d4
          have c5 := keepc hB.out d5
          have c6 := keepc hB.out d6
          have c7 := keepc hB.out d7
          have c8 := keepc hB.out d8
          have ka : (0 : Int) ≤ (j : Int) := by omega
          have kb : (j : Int) < (k : Int) := by omega
          have hq : I64 (la l j).qu := (HO.out _ (la_mem hlt')).1
          have GD : okv (((la l j).sl : Int), (la l j).me) = true := gdB_one GB.out hlt'
          have G0 : okv (useT l (la l j).qu j) = true := fitT_ok hfit.out
          have NU : Hid (useT l (la l j).qu (j + 1) = ((useT l (la l j).qu j).1 + ((la l j).sl : Int), (useT l (la l j).qu j).2 + (la l j).me)) := by unfold Hid; show (if _ then _ else _) = _; rw [if_pos rfl]
          have NF : Hid (fitT l (j + 1) = (fitT l j && okv (useT l (la l j).qu (j + 1)))) := rfl
          have NT : Hid ((fun q => useT l q (j + 1)) = fun q => if (la l j).qu = q then ((useT l q j).1 + ((la l j).sl : Int), (useT l q j).2 + (la l j).me) else useT l q j) := rfl
          have NH : Hid ((fun q => hasT l q (j + 1)) = fun q => hasT l q j || decide (q = (la l j).qu)) := rfl
          clear d1 d2 d3 d4 d5 d6 d7 d8 Rw
          have VA_ : ∃ R1 R2 RE : Int, Hid (∀ W, Calls Tryz.prog 33 #[.agg #[.int .i64 (useT l (la l j).qu j).1, .int .i64 (useT l (la l j).qu j).2], .agg #[.int .i64 ((la l j).sl : Int), .int .i64 (la l j).me]] W fun e w' => e = .returned (.tuple #[.agg #[.int .i64 R1, .int .i64 R2], .int .i64 RE]) ∧ Below W.heap.size W w') ∧ Hid ((okv (useT l (la l j).qu (j + 1)) = true ∧ (R1, R2) = useT l (la l j).qu (j + 1) ∧ RE = 0) ∨ (okv (useT l (la l j).qu (j + 1)) = false ∧ RE = 2)) := by
            have e := rop_yes (a := useT l (la l j).qu j) (b := (((la l j).sl : Int), (la l j).me)) (s := ((useT l (la l j).qu j).1 + ((la l j).sl : Int), (useT l (la l j).qu j).2 + (la l j).me)) (by simp [GD, G0])
            have e1 := e.1
            rw [← NU.out] at e1
            refine ⟨_, _, _, fun W => vadd_any (useT l (la l j).qu j).1 (useT l (la l j).qu j).2 ((la l j).sl : Int) (la l j).me W, ?_⟩
            rw [← NU.out]
            show (_ ∨ _)
            rw [show ((useT l (la l j).qu j).1, (useT l (la l j).qu j).2) = useT l (la l j).qu j from rfl, e1]
            unfold rin
            cases hh : okv (useT l (la l j).qu (j + 1))
            · right; simp
            · left; simp
          obtain ⟨R1, R2, RE, VA_, HR⟩ := VA_
          have LK := hid (fun W (hW : UM W M j (fun q => hasT l q j) (fun q => useT l q j)) => hW.look hq)
          have PT := hid (fun W (hW : UM W M j (fun q => hasT l q j) (fun q => useT l q j)) => hW.put (c := R1) (m := R2) hq (by unfold maxLen; omega))
          clear G0 GD NU
          generalize hx : la l j = x at *
          have HX := hid hx
          clear hx
          obtain ⟨x1, x2, x3, sa, sl, sc, x5, x6, x7, x8, co⟩ := x
          simp only at c1 c2 c3 c4 c5 c6 c7 c8 hq LK PT NF NT NH VA_ HR HX
          generalize hS : useT l x2 (j + 1) = S1 at *
          have HS := hid hS
          clear hS
          generalize hg : useT l x2 j = g at *
          have HG := hid hg
          clear hg
          obtain ⟨g1, g2⟩ := g
          simp only at VA_ LK
          go_upto_region 11 with fail
          have BA := hid (hB.out.alloc hB.out.size (.cells #[.int .i64 x1, .int .i64 x2, .int .i64 x3, .slice sa sl sc, .int .i64 x5, .int .i64 x6, .int .i64 x7, .bool x8] 42))
          have U0 : UM (wr.alloc (.cells #[.int .i64 x1, .int .i64 x2, .int .i64 x3, .slice sa sl sc, .int .i64 x5, .int .i64 x6, .int .i64 x7, .bool x8] 42)) M j (fun q => hasT l q j) (fun q => useT l q j) := hU.out.alloc _
          have m0 : (wr.alloc (.cells #[.int .i64 x1, .int .i64 x2, .int .i64 x3, .slice sa sl sc, .int .i64 x5, .int .i64 x6, .int .i64 x7, .bool x8] 42)).cell? ⟨wr.heap.size, 0, none⟩ = some (.int .i64 x1) := by simp [go_sem]
          have m1 : (wr.alloc (.cells #[.int .i64 x1, .int .i64 x2, .int .i64 x3, .slice sa sl sc, .int .i64 x5, .int .i64 x6, .int .i64 x7, .bool x8] 42)).cell? ⟨wr.heap.size, 1, none⟩ = some (.int .i64 x2) := by simp [go_sem]
          have m2 : (wr.alloc (.cells #[.int .i64 x1, .int .i64 x2, .int .i64 x3, .slice sa sl sc, .int .i64 x5, .int .i64 x6, .int .i64 x7, .bool x8] 42)).cell? ⟨wr.heap.size, 2, none⟩ = some (.int .i64 x3) := by simp [go_sem]
          have m3 : (wr.alloc (.cells #[.int .i64 x1, .int .i64 x2, .int .i64 x3, .slice sa sl sc, .int .i64 x5, .int .i64 x6, .int .i64 x7, .bool x8] 42)).cell? ⟨wr.heap.size, 3, none⟩ = some (.slice sa sl sc) := by simp [go_sem]
          have m4 : (wr.alloc (.cells #[.int .i64 x1, .int .i64 x2, .int .i64 x3, .slice sa sl sc, .int .i64 x5, .int .i64 x6, .int .i64 x7, .bool x8] 42)).cell? ⟨wr.heap.size, 4, none⟩ = some (.int .i64 x5) := by simp [go_sem]
          have m5 : (wr.alloc (.cells #[.int .i64 x1, .int .i64 x2, .int .i64 x3, .slice sa sl sc, .int .i64 x5, .int .i64 x6, .int .i64 x7, .bool x8] 42)).cell? ⟨wr.heap.size, 5, none⟩ = some (.int .i64 x6) := by simp [go_sem]
          have m6 : (wr.alloc (.cells #[.int .i64 x1, .int .i64 x2, .int .i64 x3, .slice sa sl sc, .int .i64 x5, .int .i64 x6, .int .i64 x7, .bool x8] 42)).cell? ⟨wr.heap.size, 6, none⟩ = some (.int .i64 x7) := by simp [go_sem]
          have m7 : (wr.alloc (.cells #[.int .i64 x1, .int .i64 x2, .int .i64 x3, .slice sa sl sc, .int .i64 x5, .int .i64 x6, .int .i64 x7, .bool x8] 42)).cell? ⟨wr.heap.size, 7, none⟩ = some (.bool x8) := by simp [go_sem]
          clear hB hU c1 c2 c3 c4 c5 c6 c7 c8
          generalize hW0 : wr.alloc (.cells #[.int .i64 x1, .int .i64 x2, .int .i64 x3, .slice sa sl sc, .int .i64 x5, .int .i64 x6, .int .i64 x7, .bool x8] 42) = W0 at *
          clear hW0
          generalize hB0 : wr.heap.size = B0 at *
          clear hB0
          have BX := hid ((Below.refl W0.heap.size W0).drew)
          have TUP := hid (fun Y (hY : Below W0.heap.size W0 Y) => (⟨keepc hY m0, keepc hY m1, keepc hY m2, keepc hY m3, keepc hY m4, keepc hY m5, keepc hY m6, keepc hY m7, U0.below hY⟩ : (World.cell? Y ⟨B0, 0, none⟩ = some (.int .i64 x1) ∧ World.cell? Y ⟨B0, 1, none⟩ = some (.int .i64 x2) ∧ World.cell? Y ⟨B0, 2, none⟩ = some (.int .i64 x3) ∧ World.cell? Y ⟨B0, 3, none⟩ = some (.slice sa sl sc) ∧ World.cell? Y ⟨B0, 4, none⟩ = some (.int .i64 x5) ∧ World.cell? Y ⟨B0, 5, none⟩ = some (.int .i64 x6) ∧ World.cell? Y ⟨B0, 6, none⟩ = some (.int .i64 x7) ∧ World.cell? Y ⟨B0, 7, none⟩ = some (.bool x8) ∧ UM Y M j (fun q => hasT l q j) (fun q => useT l q j))))
          clear m0 m1 m2 m3 m4 m5 m6 m7
          refine wp_region_held_drew (S := fun w' => (World.cell? w' ⟨B0, 0, none⟩ = some (.int .i64 x1) ∧ World.cell? w' ⟨B0, 1, none⟩ = some (.int .i64 x2) ∧ World.cell? w' ⟨B0, 2, none⟩ = some (.int .i64 x3) ∧ World.cell? w' ⟨B0, 3, none⟩ = some (.slice sa sl sc) ∧ World.cell? w' ⟨B0, 4, none⟩ = some (.int .i64 x5) ∧ World.cell? w' ⟨B0, 5, none⟩ = some (.int .i64 x6) ∧ World.cell? w' ⟨B0, 6, none⟩ = some (.int .i64 x7) ∧ World.cell? w' ⟨B0, 7, none⟩ = some (.bool x8) ∧ UM w' M j (fun q => hasT l q j) (fun q => useT l q j))) (by kernel_rfl) (TUP.out _ BX.out) (fun hHeld => ?_)
          refine wpAnyH_take (i := 0) (v := .map (some M)) rfl (by kernel_rfl) (by kernel_rfl) (by kernel_rfl) (fun _ _ _ h => h) (Or.inl ⟨by rfl, ?_⟩) (by assumption) ?_
          · (intro w hSw;  (try dsimp only at hSw); go_simp)
          (try simp only [Act.put, List.getElem_toArray, List.getElem_cons_succ, List.getElem_cons_zero, List.setIfInBounds_toArray, List.set_cons_zero, List.set_cons_succ])
          refine wpAnyH_take (i := 1) (v := .pointer (some ⟨B0, 1, none⟩)) rfl (by kernel_rfl) (by kernel_rfl) (by kernel_rfl) (fun _ _ _ h => h) (Or.inl ⟨by rfl, ?_⟩) (by assumption) ?_
          · (intro w hSw;  (try dsimp only at hSw); go_simp)
          (try simp only [Act.put, List.getElem_toArray, List.getElem_cons_succ, List.getElem_cons_zero, List.setIfInBounds_toArray, List.set_cons_zero, List.set_cons_succ])
          refine wpAnyH_take (i := 2) (v := .int .i64 x2) rfl (by kernel_rfl) (by kernel_rfl) (by kernel_rfl) (fun _ _ _ h => h) (Or.inl ⟨by rfl, ?_⟩) (by assumption) ?_
          · (intro w hSw;  (try dsimp only at hSw); go_simp)
          (try simp only [Act.put, List.getElem_toArray, List.getElem_cons_succ, List.getElem_cons_zero, List.setIfInBounds_toArray, List.set_cons_zero, List.set_cons_succ])
          refine wpAnyH_take (i := 3) (v := .agg #[.int .i64 g1, .int .i64 g2]) rfl (by kernel_rfl) (by kernel_rfl) (by kernel_rfl) (fun _ _ _ h => h) (Or.inl ⟨by rfl, ?_⟩) (by assumption) ?_
          · (intro w hSw; have hlk := LK.out _ hSw.2.2.2.2.2.2.2.2; (try dsimp only at hSw); go_simp)
          (try simp only [Act.put, List.getElem_toArray, List.getElem_cons_succ, List.getElem_cons_zero, List.setIfInBounds_toArray, List.set_cons_zero, List.set_cons_succ])
          refine wpAnyH_take (i := 4) (v := .agg #[.int .i64 x1, .int .i64 x2, .int .i64 x3, .slice sa sl sc, .int .i64 x5, .int .i64 x6, .int .i64 x7, .bool x8]) rfl (by kernel_rfl) (by kernel_rfl) (by kernel_rfl) (fun _ _ _ h => h) (Or.inl ⟨by rfl, ?_⟩) (by assumption) ?_
          · (intro w hSw;  (try dsimp only at hSw); go_simp)
          (try simp only [Act.put, List.getElem_toArray, List.getElem_cons_succ, List.getElem_cons_zero, List.setIfInBounds_toArray, List.set_cons_zero, List.set_cons_succ])
          refine wpAnyH_ready (rs := [5, 10]) (by kernel_rfl) (by simp) ?_
          refine AllReadyH.cons rfl (fun K hK => ?_) (AllReadyH.cons rfl (fun K hK => ?_) AllReadyH.nil)
          · go_simp
            refine (amount_any _ _ _ _ _ _ _ _ _ _ _).mono ?_
            rintro e y1 ⟨rfl, b1⟩
            replace BX := hid (BX.out.trans (b1.mono BX.out.size))
            refine hK.out _ _ (TUP.out _ BX.out) (fun hHeld => ?_)
            clear hK K
            (try simp only [Act.put, List.getElem_toArray, List.getElem_cons_succ, List.getElem_cons_zero, List.setIfInBounds_toArray, List.set_cons_zero, List.set_cons_succ])
            refine wpAnyH_ready (rs := [6, 10]) (by kernel_rfl) (by simp) ?_
            refine AllReadyH.cons rfl (fun K hK => ?_) (AllReadyH.cons rfl (fun K hK => ?_) AllReadyH.nil)
            · go_simp
              refine (VA_.out _).mono ?_
              rintro e y2 ⟨rfl, b2⟩
              replace BX := hid (BX.out.trans (b2.mono BX.out.size))
              refine hK.out _ _ (TUP.out _ BX.out) (fun hHeld => ?_)
              clear hK K
              (try simp only [Act.put, List.getElem_toArray, List.getElem_cons_succ, List.getElem_cons_zero, List.setIfInBounds_toArray, List.set_cons_zero, List.set_cons_succ])
              refine wpAnyH_take (i := 7) (v := .tuple #[.agg #[.int .i64 R1, .int .i64 R2], .int .i64 RE]) rfl (by kernel_rfl) (by kernel_rfl) (by kernel_rfl) (fun _ _ _ h => h) (Or.inl ⟨by rfl, ?_⟩) (by assumption) ?_
              · (intro w hSw;  (try dsimp only at hSw); go_simp)
              (try simp only [Act.put, List.getElem_toArray, List.getElem_cons_succ, List.getElem_cons_zero, List.setIfInBounds_toArray, List.set_cons_zero, List.set_cons_succ])
              refine wpAnyH_take (i := 8) (v := .agg #[.int .i64 R1, .int .i64 R2]) rfl (by kernel_rfl) (by kernel_rfl) (by kernel_rfl) (fun _ _ _ h => h) (Or.inl ⟨by rfl, ?_⟩) (by assumption) ?_
              · (intro w hSw;  (try dsimp only at hSw); go_simp)
              (try simp only [Act.put, List.getElem_toArray, List.getElem_cons_succ, List.getElem_cons_zero, List.setIfInBounds_toArray, List.set_cons_zero, List.set_cons_succ])
              refine wpAnyH_take (i := 9) (v := .int .i64 RE) rfl (by kernel_rfl) (by kernel_rfl) (by kernel_rfl) (fun _ _ _ h => h) (Or.inl ⟨by rfl, ?_⟩) (by assumption) ?_
              · (intro w hSw;  (try dsimp only at hSw); go_simp)
              (try simp only [Act.put, List.getElem_toArray, List.getElem_cons_succ, List.getElem_cons_zero, List.setIfInBounds_toArray, List.set_cons_zero, List.set_cons_succ])
              refine wpAnyH_ready (rs := [10]) (by kernel_rfl) (by simp) ?_
              refine AllReadyH.cons rfl (fun K hK => ?_) AllReadyH.nil
              go_simp
              have z0 : (y2.alloc (.cells #[.int .i64 0, .int .i64 0] 33)).cell? ⟨y2.heap.size, 0, none⟩ = some (.int .i64 0) := by simp [go_sem]
              have z1 : (y2.alloc (.cells #[.int .i64 0, .int .i64 0] 33)).cell? ⟨y2.heap.size, 1, none⟩ = some (.int .i64 0) := by simp [go_sem]
              have f0 : (y2.alloc (.cells #[.int .i64 0, .int .i64 0] 33)).frozen? ⟨y2.heap.size, 0, none⟩ = false := by simp [go_sem]
              have f1 : (y2.alloc (.cells #[.int .i64 0, .int .i64 0] 33)).frozen? ⟨y2.heap.size, 1, none⟩ = false := by simp [go_sem]
              have hE := hid BX.out.size
              replace BX := hid (BX.out.alloc BX.out.size (.cells #[.int .i64 0, .int .i64 0] 33))
              generalize hyz : y2.alloc (.cells #[.int .i64 0, .int .i64 0] 33) = yz at *
              clear hyz
              generalize hyE : Array.size (World.heap y2) = E at *
              clear hyE
              refine hK.out _ _ (TUP.out _ BX.out) (fun hHeld => ?_)
              clear hK K
              (try simp only [Act.put, List.getElem_toArray, List.getElem_cons_succ, List.getElem_cons_zero, List.setIfInBounds_toArray, List.set_cons_zero, List.set_cons_succ])
              refine wpAnyH_ready (rs := [11]) (by kernel_rfl) (by simp) ?_
              refine AllReadyH.cons rfl (fun K hK => ?_) AllReadyH.nil
              go_simp
              have s0 : ((yz.setCell ⟨E, 0, none⟩ (.int .i64 R1)).setCell ⟨E, 1, none⟩ (.int .i64 R2)).cell? ⟨E, 0, none⟩ = some (.int .i64 R1) := by simp [go_sem, z0, z1, f0, f1]
              have s1 : ((yz.setCell ⟨E, 0, none⟩ (.int .i64 R1)).setCell ⟨E, 1, none⟩ (.int .i64 R2)).cell? ⟨E, 1, none⟩ = some (.int .i64 R2) := by simp [go_sem, z0, z1, f0, f1]
              replace BX : Hid (Below W0.heap.size W0 ((yz.setCell ⟨E, 0, none⟩ (.int .i64 R1)).setCell ⟨E, 1, none⟩ (.int .i64 R2))) := (BX.out.setCell (by exact hE.out) _).setCell (by exact hE.out) _
              clear z0 z1 f0 f1
              generalize hyv : (yz.setCell ⟨E, 0, none⟩ (.int .i64 R1)).setCell ⟨E, 1, none⟩ (.int .i64 R2) = yv at *
              clear hyv
              refine hK.out _ _ (TUP.out _ BX.out) (fun hHeld => ?_)
              clear hK K
              (try simp only [Act.put, List.getElem_toArray, List.getElem_cons_succ, List.getElem_cons_zero, List.setIfInBounds_toArray, List.set_cons_zero, List.set_cons_succ])
              refine wpAnyH_take (i := 12) (v := .int .i64 RE) rfl (by kernel_rfl) (by kernel_rfl) (by kernel_rfl) (fun _ _ _ h => h) (Or.inl ⟨by rfl, ?_⟩) (by assumption) ?_
              · (intro w hSw;  (try dsimp only at hSw); go_simp)
              (try simp only [Act.put, List.getElem_toArray, List.getElem_cons_succ, List.getElem_cons_zero, List.setIfInBounds_toArray, List.set_cons_zero, List.set_cons_succ])
              refine wpAnyH_done (by kernel_rfl) ?_ _
              have q1 := (TUP.out _ BX.out).2.1
              have U1 := U0.below BX.out
              clear hHeld TUP LK VA_
              rcases HR.out with ⟨o1, e1, rfl⟩ | ⟨o1, rfl⟩
              · obtain ⟨w3, hrun3, hU3, hg3⟩ := PT.out yv U1
                have HU3 := hid hU3
                have HG3 := hid hg3
                clear hU3 hg3 PT
                go_wp2_with fail
                have FT : Hid (fitT l (j + 1) = true) := by unfold Hid; rw [NF.out, hfit.out, o1]; rfl
                have BW := BA.out.trans (BX.out.mono BA.out.size)
                have E1 : (fun y => if x2 = y then (R1, R2) else useT l y j) = fun q => useT l q (j + 1) := by
                  funext y
                  by_cases e : x2 = y
                  · subst e; simp only [if_true]; rw [HS.out]; exact e1
                  · rw [if_neg e]; have := congrFun NT.out y; simp only [if_neg e] at this; exact this.symm
                have HU4 := HU3.out
                rw [E1] at HU4
                have HU5 : Hid (UM w3 M (j + 1) (fun q => hasT l q (j + 1)) (fun q => useT l q (j + 1))) := by unfold Hid; rw [NH.out]; exact HU4
                refine ⟨⟨j + 1, by omega, by go_num, FT, HU5, BW.grown HG3.out BW.size (fun i e => by cases e; exact MB.out)⟩, ?_⟩
                simp [intOf]; omega
              · have ER : Hid (useErr l = 2) := by
                  have h2 := fitT_le (k := j + 1) (by rw [NF.out, o1]; exact Bool.and_false _) l.length (by omega)
                  unfold Hid useErr; rw [GB.out, h2]; rfl
                go_wp2_with fail
                go_ret2
                exact ⟨_, ret_u ER.out, .inl ⟨by rw [ER.out]; decide, rfl⟩, BA.out.trans (BX.out.mono BA.out.size)⟩
            · go_simp
              have z0 : (y1.alloc (.cells #[.int .i64 0, .int .i64 0] 33)).cell? ⟨y1.heap.size, 0, none⟩ = some (.int .i64 0) := by simp [go_sem]
              have z1 : (y1.alloc (.cells #[.int .i64 0, .int .i64 0] 33)).cell? ⟨y1.heap.size, 1, none⟩ = some (.int .i64 0) := by simp [go_sem]
              have f0 : (y1.alloc (.cells #[.int .i64 0, .int .i64 0] 33)).frozen? ⟨y1.heap.size, 0, none⟩ = false := by simp [go_sem]
              have f1 : (y1.alloc (.cells #[.int .i64 0, .int .i64 0] 33)).frozen? ⟨y1.heap.size, 1, none⟩ = false := by simp [go_sem]
              have hE := hid BX.out.size
              replace BX := hid (BX.out.alloc BX.out.size (.cells #[.int .i64 0, .int .i64 0] 33))
              generalize hyz : y1.alloc (.cells #[.int .i64 0, .int .i64 0] 33) = yz at *
              clear hyz
              generalize hyE : Array.size (World.heap y1) = E at *
              clear hyE
              refine hK.out _ _ (TUP.out _ BX.out) (fun hHeld => ?_)
              clear hK K
              (try simp only [Act.put, List.getElem_toArray, List.getElem_cons_succ, List.getElem_cons_zero, List.setIfInBounds_toArray, List.set_cons_zero, List.set_cons_succ])
              refine wpAnyH_ready (rs := [6]) (by kernel_rfl) (by simp) ?_
              refine AllReadyH.cons rfl (fun K hK => ?_) AllReadyH.nil
              go_simp
              refine (VA_.out _).mono ?_
              rintro e y2 ⟨rfl, b2⟩
              replace BX := hid (BX.out.trans (b2.mono BX.out.size))
              refine hK.out _ _ (TUP.out _ BX.out) (fun hHeld => ?_)
              clear hK K
              (try simp only [Act.put, List.getElem_toArray, List.getElem_cons_succ, List.getElem_cons_zero, List.setIfInBounds_toArray, List.set_cons_zero, List.set_cons_succ])
              replace f0 := keepf b2 z0 f0
              replace f1 := keepf b2 z1 f1
              replace z0 := keepc b2 z0
              replace z1 := keepc b2 z1
              refine wpAnyH_take (i := 7) (v := .tuple #[.agg #[.int .i64 R1, .int .i64 R2], .int .i64 RE]) rfl (by kernel_rfl) (by kernel_rfl) (by kernel_rfl) (fun _ _ _ h => h) (Or.inl ⟨by rfl, ?_⟩) (by assumption) ?_
              · (intro w hSw;  (try dsimp only at hSw); go_simp)
              (try simp only [Act.put, List.getElem_toArray, List.getElem_cons_succ, List.getElem_cons_zero, List.setIfInBounds_toArray, List.set_cons_zero, List.set_cons_succ])
              refine wpAnyH_take (i := 8) (v := .agg #[.int .i64 R1, .int .i64 R2]) rfl (by kernel_rfl) (by kernel_rfl) (by kernel_rfl) (fun _ _ _ h => h) (Or.inl ⟨by rfl, ?_⟩) (by assumption) ?_
              · (intro w hSw;  (try dsimp only at hSw); go_simp)
              (try simp only [Act.put, List.getElem_toArray, List.getElem_cons_succ, List.getElem_cons_zero, List.setIfInBounds_toArray, List.set_cons_zero, List.set_cons_succ])
              refine wpAnyH_take (i := 9) (v := .int .i64 RE) rfl (by kernel_rfl) (by kernel_rfl) (by kernel_rfl) (fun _ _ _ h => h) (Or.inl ⟨by rfl, ?_⟩) (by assumption) ?_
              · (intro w hSw;  (try dsimp only at hSw); go_simp)
              (try simp only [Act.put, List.getElem_toArray, List.getElem_cons_succ, List.getElem_cons_zero, List.setIfInBounds_toArray, List.set_cons_zero, List.set_cons_succ])
              refine wpAnyH_ready (rs := [11]) (by kernel_rfl) (by simp) ?_
              refine AllReadyH.cons rfl (fun K hK => ?_) AllReadyH.nil
              go_simp
              have s0 : ((y2.setCell ⟨E, 0, none⟩ (.int .i64 R1)).setCell ⟨E, 1, none⟩ (.int .i64 R2)).cell? ⟨E, 0, none⟩ = some (.int .i64 R1) := by simp [go_sem, z0, z1, f0, f1]
              have s1 : ((y2.setCell ⟨E, 0, none⟩ (.int .i64 R1)).setCell ⟨E, 1, none⟩ (.int .i64 R2)).cell? ⟨E, 1, none⟩ = some (.int .i64 R2) := by simp [go_sem, z0, z1, f0, f1]
              replace BX : Hid (Below W0.heap.size W0 ((y2.setCell ⟨E, 0, none⟩ (.int .i64 R1)).setCell ⟨E, 1, none⟩ (.int .i64 R2))) := (BX.out.setCell (by exact hE.out) _).setCell (by exact hE.out) _
              clear z0 z1 f0 f1
              generalize hyv : (y2.setCell ⟨E, 0, none⟩ (.int .i64 R1)).setCell ⟨E, 1, none⟩ (.int .i64 R2) = yv at *
              clear hyv
              refine hK.out _ _ (TUP.out _ BX.out) (fun hHeld => ?_)
              clear hK K
              (try simp only [Act.put, List.getElem_toArray, List.getElem_cons_succ, List.getElem_cons_zero, List.setIfInBounds_toArray, List.set_cons_zero, List.set_cons_succ])
              refine wpAnyH_take (i := 12) (v := .int .i64 RE) rfl (by kernel_rfl) (by kernel_rfl) (by kernel_rfl) (fun _ _ _ h => h) (Or.inl ⟨by rfl, ?_⟩) (by assumption) ?_
              · (intro w hSw;  (try dsimp only at hSw); go_simp)
              (try simp only [Act.put, List.getElem_toArray, List.getElem_cons_succ, List.getElem_cons_zero, List.setIfInBounds_toArray, List.set_cons_zero, List.set_cons_succ])
              refine wpAnyH_done (by kernel_rfl) ?_ _
              have q1 := (TUP.out _ BX.out).2.1
              have U1 := U0.below BX.out
              clear hHeld TUP LK VA_
              rcases HR.out with ⟨o1, e1, rfl⟩ | ⟨o1, rfl⟩
              · obtain ⟨w3, hrun3, hU3, hg3⟩ := PT.out yv U1
                have HU3 := hid hU3
                have HG3 := hid hg3
                clear hU3 hg3 PT
                go_wp2_with fail
                have FT : Hid (fitT l (j + 1) = true) := by unfold Hid; rw [NF.out, hfit.out, o1]; rfl
                have BW := BA.out.trans (BX.out.mono BA.out.size)
                have E1 : (fun y => if x2 = y then (R1, R2) else useT l y j) = fun q => useT l q (j + 1) := by
                  funext y
                  by_cases e : x2 = y
                  · subst e; simp only [if_true]; rw [HS.out]; exact e1
                  · rw [if_neg e]; have := congrFun NT.out y; simp only [if_neg e] at this; exact this.symm
                have HU4 := HU3.out
                rw [E1] at HU4
                have HU5 : Hid (UM w3 M (j + 1) (fun q => hasT l q (j + 1)) (fun q => useT l q (j + 1))) := by unfold Hid; rw [NH.out]; exact HU4
                refine ⟨⟨j + 1, by omega, by go_num, FT, HU5, BW.grown HG3.out BW.size (fun i e => by cases e; exact MB.out)⟩, ?_⟩
                simp [intOf]; omega
              · have ER : Hid (useErr l = 2) := by
                  have h2 := fitT_le (k := j + 1) (by rw [NF.out, o1]; exact Bool.and_false _) l.length (by omega)
                  unfold Hid useErr; rw [GB.out, h2]; rfl
                go_wp2_with fail
                go_ret2
                exact ⟨_, ret_u ER.out, .inl ⟨by rw [ER.out]; decide, rfl⟩, BA.out.trans (BX.out.mono BA.out.size)⟩
          · go_simp
            have z0 : ((W0.alloc (.cells #[.int .i64 0, .int .i64 0] 33)).drew).cell? ⟨W0.heap.size, 0, none⟩ = some (.int .i64 0) := by simp [go_sem]
            have z1 : ((W0.alloc (.cells #[.int .i64 0, .int .i64 0] 33)).drew).cell? ⟨W0.heap.size, 1, none⟩ = some (.int .i64 0) := by simp [go_sem]
            have f0 : ((W0.alloc (.cells #[.int .i64 0, .int .i64 0] 33)).drew).frozen? ⟨W0.heap.size, 0, none⟩ = false := by simp [go_sem]
            have f1 : ((W0.alloc (.cells #[.int .i64 0, .int .i64 0] 33)).drew).frozen? ⟨W0.heap.size, 1, none⟩ = false := by simp [go_sem]
            have hE := hid (Nat.le_refl W0.heap.size)
            replace BX := hid (((Below.refl W0.heap.size W0).alloc (Nat.le_refl _) (.cells #[.int .i64 0, .int .i64 0] 33)).drew)
            generalize hyz : (W0.alloc (.cells #[.int .i64 0, .int .i64 0] 33)).drew = yz at *
            clear hyz
            refine hK.out _ _ (TUP.out _ BX.out) (fun hHeld => ?_)
            clear hK K
            (try simp only [Act.put, List.getElem_toArray, List.getElem_cons_succ, List.getElem_cons_zero, List.setIfInBounds_toArray, List.set_cons_zero, List.set_cons_succ])
            refine wpAnyH_ready (rs := [5]) (by kernel_rfl) (by simp) ?_
            refine AllReadyH.cons rfl (fun K hK => ?_) AllReadyH.nil
            go_simp
            refine (amount_any _ _ _ _ _ _ _ _ _ _ _).mono ?_
            rintro e y1 ⟨rfl, b1⟩
            replace BX := hid (BX.out.trans (b1.mono BX.out.size))
            refine hK.out _ _ (TUP.out _ BX.out) (fun hHeld => ?_)
            clear hK K
            (try simp only [Act.put, List.getElem_toArray, List.getElem_cons_succ, List.getElem_cons_zero, List.setIfInBounds_toArray, List.set_cons_zero, List.set_cons_succ])
            replace f0 := keepf b1 z0 f0
            replace f1 := keepf b1 z1 f1
            replace z0 := keepc b1 z0
            replace z1 := keepc b1 z1
            refine wpAnyH_ready (rs := [6]) (by kernel_rfl) (by simp) ?_
            refine AllReadyH.cons rfl (fun K hK => ?_) AllReadyH.nil
            go_simp
            refine (VA_.out _).mono ?_
            rintro e y2 ⟨rfl, b2⟩
            replace BX := hid (BX.out.trans (b2.mono BX.out.size))
            refine hK.out _ _ (TUP.out _ BX.out) (fun hHeld => ?_)
            clear hK K
            (try simp only [Act.put, List.getElem_toArray, List.getElem_cons_succ, List.getElem_cons_zero, List.setIfInBounds_toArray, List.set_cons_zero, List.set_cons_succ])
            replace f0 := keepf b2 z0 f0
            replace f1 := keepf b2 z1 f1
            replace z0 := keepc b2 z0
            replace z1 := keepc b2 z1
            refine wpAnyH_take (i := 7) (v := .tuple #[.agg #[.int .i64 R1, .int .i64 R2], .int .i64 RE]) rfl (by kernel_rfl) (by kernel_rfl) (by kernel_rfl) (fun _ _ _ h => h) (Or.inl ⟨by rfl, ?_⟩) (by assumption) ?_
            · (intro w hSw;  (try dsimp only at hSw); go_simp)
            (try simp only [Act.put, List.getElem_toArray, List.getElem_cons_succ, List.getElem_cons_zero, List.setIfInBounds_toArray, List.set_cons_zero, List.set_cons_succ])
            refine wpAnyH_take (i := 8) (v := .agg #[.int .i64 R1, .int .i64 R2]) rfl (by kernel_rfl) (by kernel_rfl) (by kernel_rfl) (fun _ _ _ h => h) (Or.inl ⟨by rfl, ?_⟩) (by assumption) ?_
            · (intro w hSw;  (try dsimp only at hSw); go_simp)
            (try simp only [Act.put, List.getElem_toArray, List.getElem_cons_succ, List.getElem_cons_zero, List.setIfInBounds_toArray, List.set_cons_zero, List.set_cons_succ])
            refine wpAnyH_take (i := 9) (v := .int .i64 RE) rfl (by kernel_rfl) (by kernel_rfl) (by kernel_rfl) (fun _ _ _ h => h) (Or.inl ⟨by rfl, ?_⟩) (by assumption) ?_
            · (intro w hSw;  (try dsimp only at hSw); go_simp)
            (try simp only [Act.put, List.getElem_toArray, List.getElem_cons_succ, List.getElem_cons_zero, List.setIfInBounds_toArray, List.set_cons_zero, List.set_cons_succ])
            refine wpAnyH_ready (rs := [11]) (by kernel_rfl) (by simp) ?_
            refine AllReadyH.cons rfl (fun K hK => ?_) AllReadyH.nil
            go_simp
            have s0 : ((y2.setCell ⟨W0.heap.size, 0, none⟩ (.int .i64 R1)).setCell ⟨W0.heap.size, 1, none⟩ (.int .i64 R2)).cell? ⟨W0.heap.size, 0, none⟩ = some (.int .i64 R1) := by simp [go_sem, z0, z1, f0, f1]
            have s1 : ((y2.setCell ⟨W0.heap.size, 0, none⟩ (.int .i64 R1)).setCell ⟨W0.heap.size, 1, none⟩ (.int .i64 R2)).cell? ⟨W0.heap.size, 1, none⟩ = some (.int .i64 R2) := by simp [go_sem, z0, z1, f0, f1]
            replace BX : Hid (Below W0.heap.size W0 ((y2.setCell ⟨W0.heap.size, 0, none⟩ (.int .i64 R1)).setCell ⟨W0.heap.size, 1, none⟩ (.int .i64 R2))) := (BX.out.setCell (by exact hE.out) _).setCell (by exact hE.out) _
            clear z0 z1 f0 f1
            generalize hyv : (y2.setCell ⟨W0.heap.size, 0, none⟩ (.int .i64 R1)).setCell ⟨W0.heap.size, 1, none⟩ (.int .i64 R2) = yv at *
            clear hyv
            refine hK.out _ _ (TUP.out _ BX.out) (fun hHeld => ?_)
            clear hK K
            (try simp only [Act.put, List.getElem_toArray, List.getElem_cons_succ, List.getElem_cons_zero, List.setIfInBounds_toArray, List.set_cons_zero, List.set_cons_succ])
            refine wpAnyH_take (i := 12) (v := .int .i64 RE) rfl (by kernel_rfl) (by kernel_rfl) (by kernel_rfl) (fun _ _ _ h => h) (Or.inl ⟨by rfl, ?_⟩) (by assumption) ?_
            · (intro w hSw;  (try dsimp only at hSw); go_simp)
            (try simp only [Act.put, List.getElem_toArray, List.getElem_cons_succ, List.getElem_cons_zero, List.setIfInBounds_toArray, List.set_cons_zero, List.set_cons_succ])
            refine wpAnyH_done (by kernel_rfl) ?_ _
            have q1 := (TUP.out _ BX.out).2.1
            have U1 := U0.below BX.out
            clear hHeld TUP LK VA_
            rcases HR.out with ⟨o1, e1, rfl⟩ | ⟨o1, rfl⟩
            · obtain ⟨w3, hrun3, hU3, hg3⟩ := PT.out yv U1
              have HU3 := hid hU3
              have HG3 := hid hg3
              clear hU3 hg3 PT
              go_wp2_with fail
              have FT : Hid (fitT l (j + 1) = true) := by unfold Hid; rw [NF.out, hfit.out, o1]; rfl
              have BW := BA.out.trans (BX.out.mono BA.out.size)
              have E1 : (fun y => if x2 = y then (R1, R2) else useT l y j) = fun q => useT l q (j + 1) := by
                funext y
                by_cases e : x2 = y
                · subst e; simp only [if_true]; rw [HS.out]; exact e1
                · rw [if_neg e]; have := congrFun NT.out y; simp only [if_neg e] at this; exact this.symm
              have HU4 := HU3.out
              rw [E1] at HU4
              have HU5 : Hid (UM w3 M (j + 1) (fun q => hasT l q (j + 1)) (fun q => useT l q (j + 1))) := by unfold Hid; rw [NH.out]; exact HU4
              refine ⟨⟨j + 1, by omega, by go_num, FT, HU5, BW.grown HG3.out BW.size (fun i e => by cases e; exact MB.out)⟩, ?_⟩
              simp [intOf]; omega
            · have ER : Hid (useErr l = 2) := by
                have h2 := fitT_le (k := j + 1) (by rw [NF.out, o1]; exact Bool.and_false _) l.length (by omega)
                unfold Hid useErr; rw [GB.out, h2]; rfl
              go_wp2_with fail
              go_ret2
              exact ⟨_, ret_u ER.out, .inl ⟨by rw [ER.out]; decide, rfl⟩, BA.out.trans (BX.out.mono BA.out.size)⟩
        · obtain rfl : j = k := by omega
          have ER : Hid (useErr l = 0) := by unfold Hid useErr; rw [GB.out, HL.out, hfit.out]; rfl
          have HU := hid hU.out
          clear hU hfit
          go_wp2_with fail
          go_ret2
          exact ⟨_, ret_u ER.out, .inr ⟨ER.out, M, rfl, MB.out, by rw [HL.out]; exact HU.out⟩, hB.out⟩

end Go.Proofs.YtdbkjcnanffibaaGreat

namespace Go.Proofs.YtdbkjcnanffibaaGreat
open Go.RowKit Go.Maps Go.Sort Go.Shelf
set_option linter.unusedVariables false

def keysA_ren : Go.Shelf.Ren := ⟨fun | 7 => 48 | 10 => 71 | n => n, fun | 23 => 47 | 26 => 3 | 3 => 33 | 28 => 98 | 0 => 0 | 27 => 97 | 33 => 120 | 4 => 4 | n => n, fun | n => n⟩
theorem keysA : Go.Proofs.SlLaysZI.n7 Tryz.prog keysA_ren := {
  mixed := by kernel_rfl,
  f7 := ⟨Tryz.f48.name, by decide, Tryz.func48.trans (congrArg some (by kernel_rfl))⟩,
  f10 := ⟨Tryz.f71.name, by decide, Tryz.func71.trans (congrArg some (by kernel_rfl))⟩,
  t0 := Tryz.underlying0,
  a0 := Tryz.isAgg0,
  z0 := Tryz.sizeOf0,
  v0 := Tryz.zeroValue0,
  t4 := Tryz.underlying4,
  a4 := Tryz.isAgg4,
  z4 := Tryz.sizeOf4,
  v4 := Tryz.zeroValue4,
  t23 := Tryz.underlying47,
  a23 := Tryz.isAgg47,
  z23 := Tryz.sizeOf47,
  v23 := Tryz.zeroValue47,
  t26 := Tryz.underlying3,
  a26 := Tryz.isAgg3,
  z26 := Tryz.sizeOf3,
  v26 := Tryz.zeroValue3,
  t27 := Tryz.underlying97,
  a27 := Tryz.isAgg97,
  z27 := Tryz.sizeOf97,
  v27 := Tryz.zeroValue97,
  t28 := Tryz.underlying98,
  a28 := Tryz.isAgg98,
  z28 := Tryz.sizeOf98,
  v28 := Tryz.zeroValue98,
  t33 := Tryz.underlying120,
  a33 := Tryz.isAgg120,
  z33 := Tryz.sizeOf120,
  v33 := Tryz.zeroValue120 }
def sortedA_ren : Go.Shelf.Ren := ⟨fun | 6 => 47 | 8 => 69 | 9 => 70 | 11 => 86 | 13 => 88 | 12 => 87 | 23 => 102 | 24 => 103 | 14 => 93 | 15 => 94 | 16 => 95 | 17 => 96 | 18 => 97 | 19 => 98 | 20 => 99 | 21 => 100 | 22 => 101 | 25 => 108 | 26 => 109 | 27 => 110 | 28 => 111 | 29 => 112 | 30 => 113 | 31 => 117 | n => n, fun | 26 => 3 | 28 => 98 | 24 => 26 | 0 => 0 | 3 => 3 | 37 => 136 | 48 => 150 | 50 => 91 | 4 => 4 | 40 => 143 | 39 => 142 | 45 => 121 | 5 => 5 | 9 => 9 | 51 => 158 | 55 => 162 | 57 => 167 | 58 => 168 | 33 => 120 | n => n, fun | n => n⟩
theorem sortedA : Go.Proofs.SlLaysZI.n6 Tryz.prog sortedA_ren := {
  mixed := by kernel_rfl,
  f6 := ⟨Tryz.f47.name, by decide, Tryz.func47.trans (congrArg some (by kernel_rfl))⟩,
  f8 := ⟨Tryz.f69.name, by decide, Tryz.func69.trans (congrArg some (by kernel_rfl))⟩,
  f11 := ⟨Tryz.f86.name, by decide, Tryz.func86.trans (congrArg some (by kernel_rfl))⟩,
  t0 := Tryz.underlying0,
  a0 := Tryz.isAgg0,
  z0 := Tryz.sizeOf0,
  v0 := Tryz.zeroValue0,
  t24 := Tryz.underlying26,
  a24 := Tryz.isAgg26,
  z24 := Tryz.sizeOf26,
  v24 := Tryz.zeroValue26,
  t26 := Tryz.underlying3,
  a26 := Tryz.isAgg3,
  z26 := Tryz.sizeOf3,
  v26 := Tryz.zeroValue3,
  t28 := Tryz.underlying98,
  a28 := Tryz.isAgg98,
  z28 := Tryz.sizeOf98,
  v28 := Tryz.zeroValue98,
  i26 := by kernel_rfl }
def sortA_ren : Go.Shelf.Ren := ⟨fun | 5 => 70 | 8 => 88 | 7 => 87 | 19 => 102 | 20 => 103 | 10 => 93 | 11 => 94 | 12 => 95 | 13 => 96 | 14 => 97 | 15 => 98 | 16 => 99 | 17 => 100 | 18 => 101 | 30 => 108 | 31 => 109 | 32 => 110 | 33 => 111 | 34 => 112 | 35 => 113 | 40 => 117 | n => n, fun | 23 => 26 | 25 => 3 | 3 => 3 | 32 => 136 | 22 => 26 | 0 => 0 | 44 => 150 | 46 => 91 | 4 => 4 | 36 => 143 | 35 => 142 | 41 => 121 | 5 => 5 | 9 => 9 | 53 => 158 | 57 => 162 | 63 => 167 | 64 => 168 | n => n, fun | n => n⟩
theorem sortA : Go.Proofs.SlLaysM.n5 Tryz.prog sortA_ren := {
  mixed := by kernel_rfl,
  f5 := ⟨Tryz.f70.name, by decide, Tryz.func70.trans (congrArg some (by kernel_rfl))⟩,
  f7 := ⟨Tryz.f87.name, by decide, Tryz.func87.trans (congrArg some (by kernel_rfl))⟩,
  f8 := Tryz.func88.trans (congrArg some (by kernel_rfl)),
  f10 := ⟨Tryz.f93.name, by decide, Tryz.func93.trans (congrArg some (by kernel_rfl))⟩,
  f11 := ⟨Tryz.f94.name, by decide, Tryz.func94.trans (congrArg some (by kernel_rfl))⟩,
  f12 := ⟨Tryz.f95.name, by decide, Tryz.func95.trans (congrArg some (by kernel_rfl))⟩,
  f13 := ⟨Tryz.f96.name, by decide, Tryz.func96.trans (congrArg some (by kernel_rfl))⟩,
  f14 := ⟨Tryz.f97.name, by decide, Tryz.func97.trans (congrArg some (by kernel_rfl))⟩,
  f15 := ⟨Tryz.f98.name, by decide, Tryz.func98.trans (congrArg some (by kernel_rfl))⟩,
  f16 := ⟨Tryz.f99.name, by decide, Tryz.func99.trans (congrArg some (by kernel_rfl))⟩,
  f17 := ⟨Tryz.f100.name, by decide, Tryz.func100.trans (congrArg some (by kernel_rfl))⟩,
  f18 := ⟨Tryz.f101.name, by decide, Tryz.func101.trans (congrArg some (by kernel_rfl))⟩,
  f19 := Tryz.func102.trans (congrArg some (by kernel_rfl)),
  f20 := Tryz.func103.trans (congrArg some (by kernel_rfl)),
  f30 := ⟨Tryz.f108.name, by decide, Tryz.func108.trans (congrArg some (by kernel_rfl))⟩,
  f31 := Tryz.func109.trans (congrArg some (by kernel_rfl)),
  f32 := Tryz.func110.trans (congrArg some (by kernel_rfl)),
  f33 := ⟨Tryz.f111.name, by decide, Tryz.func111.trans (congrArg some (by kernel_rfl))⟩,
  f34 := ⟨Tryz.f112.name, by decide, Tryz.func112.trans (congrArg some (by kernel_rfl))⟩,
  f35 := ⟨Tryz.f113.name, by decide, Tryz.func113.trans (congrArg some (by kernel_rfl))⟩,
  f40 := ⟨Tryz.f117.name, by decide, Tryz.func117.trans (congrArg some (by kernel_rfl))⟩,
  t0 := Tryz.underlying0,
  a0 := Tryz.isAgg0,
  z0 := Tryz.sizeOf0,
  v0 := Tryz.zeroValue0,
  t3 := Tryz.underlying3,
  a3 := Tryz.isAgg3,
  z3 := Tryz.sizeOf3,
  v3 := Tryz.zeroValue3,
  t4 := Tryz.underlying4,
  a4 := Tryz.isAgg4,
  z4 := Tryz.sizeOf4,
  v4 := Tryz.zeroValue4,
  t5 := Tryz.underlying5,
  a5 := Tryz.isAgg5,
  z5 := Tryz.sizeOf5,
  v5 := Tryz.zeroValue5,
  t9 := Tryz.underlying9,
  a9 := Tryz.isAgg9,
  z9 := Tryz.sizeOf9,
  v9 := Tryz.zeroValue9,
  t22 := Tryz.underlying26,
  a22 := Tryz.isAgg26,
  z22 := Tryz.sizeOf26,
  v22 := Tryz.zeroValue26,
  t23 := Tryz.underlying26,
  a23 := Tryz.isAgg26,
  z23 := Tryz.sizeOf26,
  v23 := Tryz.zeroValue26,
  t25 := Tryz.underlying3,
  a25 := Tryz.isAgg3,
  z25 := Tryz.sizeOf3,
  v25 := Tryz.zeroValue3,
  t32 := Tryz.underlying136,
  a32 := Tryz.isAgg136,
  z32 := Tryz.sizeOf136,
  v32 := Tryz.zeroValue136,
  t35 := Tryz.underlying142,
  a35 := Tryz.isAgg142,
  z35 := Tryz.sizeOf142,
  v35 := Tryz.zeroValue142,
  t36 := Tryz.underlying143,
  a36 := Tryz.isAgg143,
  z36 := Tryz.sizeOf143,
  v36 := Tryz.zeroValue143,
  t41 := Tryz.underlying121,
  a41 := Tryz.isAgg121,
  z41 := Tryz.sizeOf121,
  v41 := Tryz.zeroValue121,
  t44 := Tryz.underlying150,
  a44 := Tryz.isAgg150,
  z44 := Tryz.sizeOf150,
  v44 := Tryz.zeroValue150,
  t46 := Tryz.underlying91,
  a46 := Tryz.isAgg91,
  z46 := Tryz.sizeOf91,
  v46 := Tryz.zeroValue91,
  t53 := Tryz.underlying158,
  a53 := Tryz.isAgg158,
  z53 := Tryz.sizeOf158,
  v53 := Tryz.zeroValue158,
  t57 := Tryz.underlying162,
  a57 := Tryz.isAgg162,
  z57 := Tryz.sizeOf162,
  v57 := Tryz.zeroValue162,
  t63 := Tryz.underlying167,
  a63 := Tryz.isAgg167,
  z63 := Tryz.sizeOf167,
  v63 := Tryz.zeroValue167,
  t64 := Tryz.underlying168,
  a64 := Tryz.isAgg168,
  z64 := Tryz.sizeOf168,
  v64 := Tryz.zeroValue168 }

/-- slices.Sort's two contracts at this dump. -/
theorem sortsA (m : Nat) : AnyZI.SortsIn Tryz.prog sortedA_ren Fence.wide m :=
  ⟨fun blk off cap ss W hH hblk hsz => callsIn_wide.2 (AnyM.slices_Sort_int sortA blk off cap ss W hH hblk hsz),
   fun p cap W => callsIn_wide.2 (AnyM.slices_Sort_int_none sortA p cap W)⟩

theorem ukeys_any (mb : Option Nat) (w : World) : Calls Tryz.prog 48 #[.map mb] w fun e w' => e = .returned (.func (.func 71) #[] #[.pointer (some ⟨w.heap.size, 0, none⟩)]) ∧ w' = w.alloc (.cells #[.map mb] 47) :=
  callsIn_wide.1 (AnyZI.keys_in keysA Fence.wide 5 trivial rfl mb w)

/-- Numbers that rise are told by what is among them. -/
theorem rise_eq {l l' : List Int} (h : l.Pairwise (· < ·)) (h' : l'.Pairwise (· < ·)) (hm : ∀ x, x ∈ l ↔ x ∈ l') : l = l' := by
  have nd : ∀ {m : List Int}, m.Pairwise (· < ·) → m.Nodup := fun hp => hp.imp (fun hlt => by omega)
  exact List.Perm.eq_of_pairwise (le := fun a b => a < b) (fun a b _ _ h1 h2 => by omega) h h' ((List.perm_ext_iff_of_nodup (nd h) (nd h')).2 hm)

/-- The numbers of a set, rising. -/
def RiseOf (h : Int → Bool) (ids : List Int) : Prop := ids.Pairwise (· < ·) ∧ (∀ x, x ∈ ids ↔ h x = true) ∧ ∀ x ∈ ids, I64 x
theorem RiseOf.eq {h : Int → Bool} {l l' : List Int} (a : RiseOf h l) (b : RiseOf h l') : l = l' := rise_eq a.1 b.1 (fun x => (a.2.1 x).trans (b.2.1 x).symm)

theorem um_keys {w : World} {b n : Nat} {h : Int → Bool} {g : Int → Int × Int} {D : DataW Unit} (hown : w.ownsMap Tryz.prog 3 vecElem b n D) (hD : ∀ id : Int, Maps.has D (.int .i64 id) = h id ∧ D.atKey (.int .i64 id) (vd (0, 0)) = vd (g id)) {ss : List Int} (hp : ss.Perm (intKeys D)) : RiseOf h (ss.mergeSort (fun x y => decide (x ≤ y))) := by
  have hw := intKeys_wf hown Tryz.underlying3
  obtain ⟨es, rfl, hpw, _⟩ := hown.entries lawV
  have hmem : ∀ x, x ∈ intKeys (.map es) ↔ h x = true := by
    intro x
    rw [← (hD x).1, has_eq, List.any_eq_true]
    show x ∈ es.map (fun p => Go.intOf p.1) ↔ _
    rw [List.mem_map]
    constructor
    · rintro ⟨p, hp', rfl⟩
      refine ⟨p, hp', ?_⟩
      obtain ⟨es', e1, hko⟩ := hown.keysOf
      cases e1
      obtain ⟨v, hv⟩ := hko p hp'
      obtain ⟨y, _, hy, hl⟩ := Maps.keyOf_i64 Tryz.underlying3 hv
      rw [hy]; simp [Lit.sameKey, Go.intOf]
    · rintro ⟨p, hp', hs⟩
      refine ⟨p, hp', ?_⟩
      obtain ⟨es', e1, hko⟩ := hown.keysOf
      cases e1
      obtain ⟨v, hv⟩ := hko p hp'
      obtain ⟨y, _, hy, hl⟩ := Maps.keyOf_i64 Tryz.underlying3 hv
      rw [hy] at hs ⊢
      simpa [Lit.sameKey, Go.intOf] using hs
  have hnd : (intKeys (.map es : DataW Unit)).Nodup := by
    show (es.map fun p => Go.intOf p.1).Nodup
    refine List.pairwise_map.2 (hpw.imp_of_mem fun {p q} hp' hq' hne e => hne ?_)
    obtain ⟨es', e1, hko⟩ := hown.keysOf
    cases e1
    obtain ⟨v, hv⟩ := hko p hp'
    obtain ⟨y, _, hy, _⟩ := Maps.keyOf_i64 Tryz.underlying3 hv
    obtain ⟨v', hv'⟩ := hko q hq'
    obtain ⟨y', _, hy', _⟩ := Maps.keyOf_i64 Tryz.underlying3 hv'
    rw [hy, hy'] at e ⊢
    exact congrArg _ e
  have hps := List.mergeSort_perm ss (fun x y => decide (x ≤ y))
  have hpa := hps.trans hp
  have tr : ∀ a b c : Int, decide (a ≤ b) = true → decide (b ≤ c) = true → decide (a ≤ c) = true := fun a b c h1 h2 => by simp only [decide_eq_true_eq] at *; omega
  have tot : ∀ a b : Int, (decide (a ≤ b) || decide (b ≤ a)) = true := fun a b => by simp only [Bool.or_eq_true, decide_eq_true_eq]; omega
  have hso := List.pairwise_mergeSort tr tot ss
  have hnd2 : (ss.mergeSort (fun x y => decide (x ≤ y))).Nodup := (hpa.nodup_iff).2 hnd
  refine ⟨?_, fun x => (hpa.mem_iff).trans (hmem x), fun x hx => ?_⟩
  · refine (hso.and hnd2).imp ?_
    rintro a b ⟨h1, h2⟩
    have := of_decide_eq_true h1
    omega
  · have := hw x ((hpa.mem_iff).1 hx)
    exact bounds_i64 this

set_option maxHeartbeats 1000000 in
theorem usorted_any {b n : Nat} {h : Int → Bool} {g : Int → Int × Int} (w : World) (hU : UM w b n h g) (hn : n * 8 ≤ 140737488355328) :
    Calls Tryz.prog 47 #[.func (.func 71) #[] #[.pointer (some ⟨w.heap.size, 0, none⟩)]] (w.alloc (.cells #[.map (some b)] 47)) fun e w' => ∃ (v : Value) (ids : List Int), e = .returned v ∧ RiseOf h ids ∧ ids.length ≤ n ∧
      w'.ownsRow (w.alloc (.cells #[.map (some b)] 47)).heap.size 3 1 v ids.length (ids.map encZ) ∧ (v = .slice none 0 0 ↔ ids = []) ∧ Below (w.alloc (.cells #[.map (some b)] 47)).heap.size (w.alloc (.cells #[.map (some b)] 47)) w' := by
  have hbl := hU.lt
  obtain ⟨D, hown, hD⟩ := hU
  have hsz := hown.size_le
  have hseq : SeqGives Fence.wide 2 Tryz.prog 71 #[.pointer (some ⟨w.heap.size, 0, none⟩)] encZ (fun ss => ss.Perm (intKeys D)) (Maps.size D) (w.alloc (.cells #[.map (some b)] 47)) :=
    AnyZI.keys_gives (ρ := keysA_ren) { keysA with } Fence.wide _ trivial rfl (by omega) w.heap.size b n D _ (by simp) (by simp) (by
      obtain ⟨es, clock, hb, Ft, hs, hDD⟩ := hown
      exact ⟨es, clock, (Below.heap_alloc _ _ b hbl).trans hb, Ft, hs, hDD⟩)
  have cS := AnyZI.sorted_in sortedA Fence.wide 5 trivial trivial trivial trivial rfl (by omega) (sortsA _) (enters_of Tryz.func70 (by kernel_rfl) rfl) 71 #[.pointer (some ⟨w.heap.size, 0, none⟩)] trivial (enters_of Tryz.func71 (by kernel_rfl) rfl) _ _ (by unfold maxLen; omega) (by omega) _ hseq
  refine (callsIn_wide.1 cS).mono ?_
  rintro e w' ⟨v, ss, rfl, hS, hrow, hnil, hb⟩
  have hR := um_keys hown hD hS
  have hl : (ss.mergeSort (fun x y => decide (x ≤ y))).length = ss.length := (List.mergeSort_perm ss _).length_eq
  refine ⟨v, ss.mergeSort (fun x y => decide (x ≤ y)), rfl, hR, ?_, by rw [hl]; exact hrow, ?_, hb⟩
  · rw [hl, hS.length_eq]
    obtain ⟨es, hes, _⟩ := hown.entries lawV
    rw [hes] at hsz ⊢
    simpa [intKeys, Maps.size] using hsz
  · rw [hnil]
    constructor
    · rintro rfl; simp
    · intro e; rw [e] at hl; exact List.length_eq_zero_iff.1 hl.symm
end Go.Proofs.YtdbkjcnanffibaaGreat

namespace Go.Proofs.YtdbkjcnanffibaaGreat
open Go.RowKit Go.Deep Go.Maps Go.Shelf
set_option linter.unusedVariables false
set_option linter.unusedSimpArgs false

theorem infoUse : (Tryz.prog.info? 44).map (fun i => (i.zero, i.size, i.bytes)) = some (some (.agg #[.int .i64 0, .int .i64 0, .int .i64 0]), 3, 24) := by kernel_rfl
/-- The uses of a row of queues. -/
def usesOf (g : Int → Int × Int) (ids : List Int) : List Us := ids.map (fun q => ⟨q, (g q).1, (g q).2⟩)
theorem usesOf_len (g : Int → Int × Int) (ids : List Int) : (usesOf g ids).length = ids.length := by simp [usesOf]
theorem usesOf_snoc (g : Int → Int × Int) {ids : List Int} {j : Nat} (h : j < ids.length) : usesOf g (ids.take (j + 1)) = usesOf g (ids.take j) ++ [⟨ids[j]?.getD 0, (g (ids[j]?.getD 0)).1, (g (ids[j]?.getD 0)).2⟩] := by
  unfold usesOf
  rw [List.take_add_one, List.getElem?_eq_getElem h]
  simp only [Option.toList_some, List.map_append, List.map_cons, List.map_nil, Option.getD_some]
theorem own_ids {base : Nat} {w : World} {v : Value} {ids : List Int} (h : w.ownsRow base 3 1 v ids.length (ids.map encZ)) : OwnN base w v ids.length ids := by
  refine ⟨rfl, ?_⟩
  have e : ids.flatMap encN = ids.map encZ := by
    clear h
    induction ids with
    | nil => rfl
    | cons x r ih => rw [List.flatMap_cons, ih]; rfl
  rw [e]; exact h

set_option maxRecDepth 100000 in
set_option maxHeartbeats 4000000 in
theorem ulist_any {b n : Nat} {h : Int → Bool} {g : Int → Int × Int} (w : World) (hU : UM w b n h g) (hn : n * 24 ≤ 140737488355328) :
    Calls Tryz.prog 29 #[.map (some b)] w fun e w' => ∃ v ids, e = .returned v ∧ RiseOf h ids ∧ ids.length ≤ n ∧ OwnE 44 3 Us.cs w.heap.size w' v ids.length (usesOf g ids) ∧ Below w.heap.size w w' := by
  have KA := hid (ukeys_any (some b) w)
  have SA := hid (usorted_any w hU (by omega))
  have HU := hid hU
  have BA := hid ((Below.refl w.heap.size w).alloc (Nat.le_refl _) (.cells #[.map (some b)] 47))
  clear hU
  go_enter Tryz.func29, Tryz.ntmps29
  go_wp2_with fail
  refine (KA.out).mono ?_
  rintro e w1 ⟨rfl, rfl⟩
  go_wp2_with fail
  refine (SA.out).mono ?_
  rintro e w2 ⟨v, ids, rfl, hR, hle, hrow, hnil, hb2⟩
  have O2 := hid (own_ids hrow)
  have R2 := hid hR
  have B2 := hid (BA.out.trans (hb2.mono BA.out.size))
  clear hrow hnil hb2 hR SA KA
  obtain ⟨ia, ic, rfl⟩ := O2.out.form
  have I2 := hid (O2.out.holds encN_len)
  clear O2 BA
  go_wp2_with fail
  go_loopw [3, 10] (fun s i wr => ∃ j : Nat, j ≤ ids.length ∧ i = .int .i64 (j : Int) ∧ Hid (OwnE 44 3 Us.cs w2.heap.size wr s j (usesOf g (ids.take j))) ∧ Hid (Below w2.heap.size w2 wr)) (fun s i _ => ids.length - (intOf i).toNat)
  case atStart => exact ⟨0, by omega, rfl, OwnE.nil _ _ _ _ _, Below.refl _ _⟩
  case round =>
    obtain ⟨j, hj, rfl, hO, hB⟩ := hrel
    by_cases hlt : j < ids.length
    · obtain ⟨ib, io, rfl, RI⟩ := I2.out.rowN (by omega)
      have c0 := keepc hB.out (RI j hlt)
      have hq : I64 (ids[j]?.getD 0) := R2.out.2.2 _ (by rw [List.getElem?_eq_getElem hlt]; exact List.getElem_mem hlt)
      have LK := ((HU.out.below B2.out).below hB.out).look hq
      have SN := hid (usesOf_snoc g hlt)
      have ka : (0 : Int) ≤ (j : Int) := by omega
      have kb : (j : Int) < (ids.length : Int) := by omega
      clear RI
      generalize ids[j]?.getD 0 = q at *
      generalize hg : g q = p at *
      obtain ⟨p1, p2⟩ := p
      simp only at LK SN
      go_wp2_with (at_builtin; refine push_ownE 24 44 _ 24 Us.cs_len Us.one Tryz.underlying24 infoUse rfl (by decide) wr ⟨q, p1, p2⟩ rfl (.tmp 14) (.tmp 20) rfl w2.heap.size j u3 _ _ rfl rfl hO.out hB.out.size rfl (by omega) (by omega) ?_)
      intro v' w1 h1 h2 _
      have O1 := hid h1
      have hB1 := hid (hB.out.trans h2)
      clear h1 h2
      go_wp2_with fail
      refine ⟨⟨j + 1, by omega, by go_num, by rw [SN.out]; exact O1, hB1⟩, ?_⟩
      simp [intOf]; omega
    · obtain rfl : j = ids.length := by omega
      have O := hid hO.out
      rw [List.take_length] at O
      go_wp2_with fail
      go_ret
      exact ⟨_, ids, rfl, R2.out, hle, O.out.weaken B2.out.size, B2.out.trans (hB.out.mono B2.out.size)⟩
end Go.Proofs.YtdbkjcnanffibaaGreat

namespace Go.Proofs.YtdbkjcnanffibaaGreat
open Go.RowKit Go.Deep Go.Maps Go.Shelf
set_option linter.unusedVariables false
set_option linter.unusedSimpArgs false

/-- What 'Uses' answers. -/
def AnsS (lo : Nat) (w : World) (v : Value) (er : Int) (l : List Le) : Prop :=
  (er ≠ 0 ∧ v = .slice none 0 0) ∨ (er = 0 ∧ ∃ ids, RiseOf (fun q => hasT l q l.length) ids ∧ ids.length ≤ l.length ∧ OwnE 44 3 Us.cs lo w v ids.length (usesOf (fun q => useT l q l.length) ids))
theorem AnsS.below {lo : Nat} {w w' : World} {v : Value} {er : Int} {l : List Le} (h : AnsS lo w v er l) (hb : Below w.heap.size w w') : AnsS lo w' v er l := by
  rcases h with h | ⟨h0, ids, h1, h2, h3⟩
  · exact .inl h
  · exact .inr ⟨h0, ids, h1, h2, h3.below hb⟩

set_option maxHeartbeats 2000000 in
theorem uuses_any (a : Option Addr) (len cap : Nat) (l : List Le) (w : World) (h : HoldsL w a len cap l) (hok : ∀ x ∈ l, x.okB) (hn : len * 24 ≤ 140737488355328) :
    Calls Tryz.prog 11 #[.slice a len cap] w fun e w' => ∃ v, e = .returned (.tuple #[v, .int .i64 (useErr l)]) ∧ AnsS w.heap.size w' v (useErr l) l ∧ Below w.heap.size w w' := by
  have HL := hid h.1.1
  have AD := hid (uadd_any a len cap l w h hok)
  clear h hok
  generalize hE : useErr l = E at *
  clear hE
  by_cases he : E = 0
  · subst he
    go_enter Tryz.func11, Tryz.ntmps11
    go_wp2_with fail
    refine AD.out.mono ?_
    rintro e w1 ⟨v1, rfl, o1, b1⟩
    have o2 : ∃ b, v1 = .map (some b) ∧ w.heap.size ≤ b ∧ UM w1 b l.length (fun q => hasT l q l.length) (fun q => useT l q l.length) := by
      rcases o1 with ⟨h, _⟩ | ⟨_, h⟩
      · exact absurd rfl h
      · exact h
    obtain ⟨b, rfl, hlo, hU⟩ := o2
    have LI := hid (ulist_any w1 hU (by rw [HL.out]; exact hn))
    have B1 := hid b1
    clear o1 hU b1 AD
    go_wp2_with fail
    refine LI.out.mono ?_
    rintro e w2 ⟨v2, ids, rfl, hR, hle, hO, b2⟩
    have B2 := hid (B1.out.trans (b2.mono B1.out.size))
    have AN : Hid (AnsS w.heap.size w2 v2 0 l) := .inr ⟨rfl, ids, hR, hle, hO.weaken B1.out.size⟩
    clear hR hO b2 LI
    go_wp2_with fail
    go_ret2
    exact ⟨_, rfl, AN.out, B2.out⟩
  · have t : (E != 0) = true := by simpa using he
    have HE := hid he
    clear he
    go_enter Tryz.func11, Tryz.ntmps11
    go_wp2_with fail
    refine AD.out.mono ?_
    rintro e w1 ⟨v1, rfl, o1, b1⟩
    clear o1
    go_wp2_with fail
    go_ret2
    exact ⟨_, rfl, .inl ⟨HE.out, rfl⟩, b1⟩
end Go.Proofs.YtdbkjcnanffibaaGreat

namespace Go.Proofs.YtdbkjcnanffibaaGreat
open Go.RowKit Go.Deep Go.Maps Go.Shelf
set_option linter.unusedVariables false
set_option linter.unusedSimpArgs false

/-- A number put into a rising list. -/
def insI (x : Int) : List Int → List Int
  | [] => [x]
  | y :: r => if x < y then x :: y :: r else if x = y then y :: r else y :: insI x r
theorem mem_insI {x z : Int} : ∀ {l : List Int}, z ∈ insI x l ↔ z = x ∨ z ∈ l := by
  intro l
  induction l with
  | nil => simp [insI]
  | cons y r ih =>
    unfold insI
    split
    · simp
    · split
      · rename_i h; subst h; simp
      · rw [List.mem_cons, ih, List.mem_cons]
        constructor
        · rintro (h | h | h)
          · exact .inr (.inl h)
          · exact .inl h
          · exact .inr (.inr h)
        · rintro (h | h | h)
          · exact .inr (.inl h)
          · exact .inl h
          · exact .inr (.inr h)
theorem rise_insI {x : Int} : ∀ {l : List Int}, l.Pairwise (· < ·) → (insI x l).Pairwise (· < ·) := by
  intro l
  induction l with
  | nil => intro _; simp [insI]
  | cons y r ih =>
    intro h
    have h' := List.pairwise_cons.1 h
    unfold insI
    split
    · rename_i hlt
      refine List.pairwise_cons.2 ⟨fun z hz => ?_, h⟩
      rcases List.mem_cons.1 hz with rfl | hz
      · exact hlt
      · have := h'.1 z hz; omega
    · split
      · exact h
      · rename_i h1 h2
        refine List.pairwise_cons.2 ⟨fun z hz => ?_, ih h'.2⟩
        rcases mem_insI.1 hz with rfl | hz
        · omega
        · exact h'.1 z hz
/-- The queues of the first k leases, rising. -/
def idsT (l : List Le) : Nat → List Int
  | 0 => []
  | k + 1 => insI (la l k).qu (idsT l k)
theorem riseT {l : List Le} (hok : ∀ x ∈ l, x.okB) : ∀ {k : Nat}, k ≤ l.length → RiseOf (fun q => hasT l q k) (idsT l k) := by
  intro k
  induction k with
  | zero => intro _; exact ⟨List.Pairwise.nil, fun x => by simp [idsT, hasT], fun x hx => by cases hx⟩
  | succ k ih =>
    intro hk
    obtain ⟨h1, h2, h3⟩ := ih (by omega)
    refine ⟨rise_insI h1, fun x => ?_, fun x hx => ?_⟩
    · show x ∈ insI _ _ ↔ (hasT l x k || decide (x = (la l k).qu)) = true
      rw [mem_insI, h2 x, Bool.or_eq_true, decide_eq_true_eq]
      exact Or.comm
    · rcases mem_insI.1 hx with rfl | hx
      · exact (hok _ (la_mem (by omega))).1
      · exact h3 x hx
/-- What leaves use by leases. -/
def useV (l : List Le) : List Us := usesOf (fun q => useT l q l.length) (idsT l l.length)
theorem useV_q {l : List Le} (hok : ∀ x ∈ l, x.okB) : ∀ u ∈ useV l, I64 u.qu := by
  intro u hu
  obtain ⟨q, hq, rfl⟩ := List.mem_map.1 hu
  exact (riseT hok (Nat.le_refl _)).2.2 q hq
/-- The list of 'Uses', told by what it is. -/
theorem AnsS.is {lo : Nat} {w : World} {v : Value} {er : Int} {l : List Le} (hok : ∀ x ∈ l, x.okB) (h : AnsS lo w v er l) (he : er = 0) : OwnE 44 3 Us.cs lo w v (useV l).length (useV l) ∧ (useV l).length ≤ l.length := by
  rcases h with ⟨h, _⟩ | ⟨_, ids, h1, h2, h3⟩
  · exact absurd he h
  · have e := h1.eq (riseT hok (Nat.le_refl _))
    subst e
    unfold useV
    rw [usesOf_len]
    exact ⟨h3, h2⟩

/-- The queue of an Id among the first k: the last one that has it. -/
def qfT (l : List Qu) (id : Int) : Nat → Option Qu
  | 0 => none
  | k + 1 => if (qa l k).id = id then some (qa l k) else qfT l id k
/-- How a queue in a map reads. -/
def qd (q : Qu) : DataW Unit := .agg [.lit (.int .i64 q.id), .lit (.int .i64 q.par), .lit (.int .i64 q.wt), .lit (.int .i64 q.qc), .lit (.int .i64 q.qm), .lit (.int .i64 q.mc), .lit (.int .i64 q.mm)]
def quElem (v : Value) : Option (DataW Unit × List MemPlace) :=
  match v with
  | .agg a => (match a.toList with
    | [.int .i64 a1, .int .i64 a2, .int .i64 a3, .int .i64 a4, .int .i64 a5, .int .i64 a6, .int .i64 a7] => some (qd ⟨a1, a2, a3, a4, a5, a6, a7⟩, [])
    | _ => none)
  | _ => none
theorem quElem_mk (q : Qu) : quElem (.agg #[.int .i64 q.id, .int .i64 q.par, .int .i64 q.wt, .int .i64 q.qc, .int .i64 q.qm, .int .i64 q.mc, .int .i64 q.mm]) = some (qd q, []) := rfl
theorem quElem_inv {v : Value} {q : Qu} {ps : List MemPlace} (h : quElem v = some (qd q, ps)) : v = .agg #[.int .i64 q.id, .int .i64 q.par, .int .i64 q.wt, .int .i64 q.qc, .int .i64 q.qm, .int .i64 q.mc, .int .i64 q.mm] := by
  unfold quElem at h
  split at h
  · rename_i cs
    split at h
    · rename_i e
      simp [qd] at h
      obtain ⟨⟨h1, h2, h3, h4, h5, h6, h7⟩, _⟩ := h
      obtain ⟨cs⟩ := cs
      simp only at e
      subst e
      rw [h1, h2, h3, h4, h5, h6, h7]
    · cases h
  · cases h
/-- Queues in a map, by their Ids. -/
def QMp (w : World) (b n : Nat) (f : Int → Option Qu) : Prop := ∃ D : DataW Unit, w.ownsMap Tryz.prog 3 quElem b n D ∧ ∀ id : Int, D.atKey (.int .i64 id) (qd q0) = qd ((f id).getD q0)
theorem QMp.same {w w' : World} {b n : Nat} {f : Int → Option Qu} (h : QMp w b n f) (hb : w'.heap[b]? = w.heap[b]?) : QMp w' b n f := by
  obtain ⟨D, ⟨es, clock, h1, h2⟩, h3⟩ := h
  exact ⟨D, ⟨es, clock, hb.trans h1, h2⟩, h3⟩
theorem QMp.lt {w : World} {b n : Nat} {f : Int → Option Qu} (h : QMp w b n f) : b < w.heap.size := by
  obtain ⟨D, ⟨es, clock, h1, h2⟩, h3⟩ := h
  exact (Array.getElem?_eq_some_iff.1 h1).1
theorem QMp.below {w w' : World} {b n : Nat} {f : Int → Option Qu} (h : QMp w b n f) (hb : Below w.heap.size w w') : QMp w' b n f := h.same (hb.block b h.lt)
theorem zeroQ8 (w : World) : (zeroValue 38).run Tryz.prog w = .ok (.agg #[.int .i64 0, .int .i64 0, .int .i64 0, .int .i64 0, .int .i64 0, .int .i64 0, .int .i64 0]) w := by kernel_rfl
theorem QMp.look {w : World} {b n : Nat} {f : Int → Option Qu} {x : Int} {q : Qu} (h : QMp w b n f) (hx : I64 x) (hq : (f x).getD q0 = q) : Sem.run Tryz.prog (Instr.lookup 45 (.map (some b)) (.int .i64 x) false) w = .ok (.agg #[.int .i64 q.id, .int .i64 q.par, .int .i64 q.wt, .int .i64 q.qc, .int .i64 q.qm, .int .i64 q.mc, .int .i64 q.mm]) w := by
  obtain ⟨D, hown, hD⟩ := h
  obtain ⟨v, ps, hrun, hv⟩ := hown.lookup lawV Tryz.underlying45 (zeroQ8 _) (zd := qd q0) (zp := []) (quElem_mk q0) (keyV hx)
  rw [hD x, hq] at hv
  obtain rfl := quElem_inv hv
  exact hrun
theorem QMp.put {w : World} {b n : Nat} {f : Int → Option Qu} {q : Qu} (h : QMp w b n f) (hx : I64 q.id) (hn : n < maxLen) : ∃ w', Sem.run Tryz.prog (Instr.mapUpdate 45 (.map (some b)) (.int .i64 q.id) (.agg #[.int .i64 q.id, .int .i64 q.par, .int .i64 q.wt, .int .i64 q.qc, .int .i64 q.qm, .int .i64 q.mc, .int .i64 q.mm])) w = .ok () w' ∧ QMp w' b (n + 1) (fun y => if q.id = y then some q else f y) ∧ w.grownBy w' (some b) := by
  obtain ⟨D, hown, hD⟩ := h
  obtain ⟨w', hrun, h1, h2⟩ := hown.update lawV Tryz.underlying45 hn (keyV hx) (d := qd q) (ps := []) (quElem_mk q)
  refine ⟨w', hrun, ⟨_, h1, fun id => ?_⟩, h2⟩
  by_cases e : id = q.id
  · subst e
    rw [atKey_put_same hown.isMap (by trivial)]
    simp
  · have hne : (Lit.int .i64 id) ≠ .int .i64 q.id := fun h => e (by injection h)
    rw [atKey_put_other hne, hD id]
    simp only [if_neg (Ne.symm e)]
theorem qmp_made (w : World) : QMp (w.alloc (.map #[] 0)) w.heap.size 0 (fun _ => none) := ⟨_, World.ownsMap_made _ _ _ _, fun id => by simp [DataW.atKey]⟩
end Go.Proofs.YtdbkjcnanffibaaGreat

namespace Go.Proofs.YtdbkjcnanffibaaGreat
open Go.RowKit Go.Deep Go.Maps Go.Shelf
set_option linter.unusedVariables false
set_option linter.unusedSimpArgs false

/-- The error of queues with leases. -/
def readE (l : List Qu) (ls : List Le) : Int := if chkE l = 0 then (if useErr ls = 0 then sumsE l (useV ls) else useErr ls) else chkE l
/-- What 'read' answers. -/
def AnsH (lo : Nat) (w : World) (v : Value) (er : Int) (l : List Qu) (ls : List Le) : Prop :=
  (er ≠ 0 ∧ v = .agg #[.map none, .map none]) ∨ (er = 0 ∧ ∃ mq mu, v = .agg #[.map (some mq), .map (some mu)] ∧ lo ≤ mq ∧ lo ≤ mu ∧ QMp w mq l.length (fun id => qfT l id l.length) ∧ UM w mu ls.length (fun q => hasT ls q ls.length) (fun q => useT ls q ls.length))
theorem ret_h {v : Value} {a b : Int} (h : a = b) : Ending.returned (.tuple #[v, .int .i64 b]) = .returned (.tuple #[v, .int .i64 a]) := by rw [h]

set_option maxRecDepth 100000 in
set_option maxHeartbeats 4000000 in
theorem uread_any (a : Option Addr) (len cap : Nat) (l : List Qu) (b : Option Addr) (ln cp : Nat) (ls : List Le) (w : World) (h : HoldsQ w a len cap l) (hok : ∀ q ∈ l, q.ok) (hl : HoldsL w b ln cp ls) (hlo : ∀ x ∈ ls, x.okB) (hn : ln * 24 ≤ 140737488355328) :
    Calls Tryz.prog 12 #[.slice a len cap, .slice b ln cp] w fun e w' => ∃ v, e = .returned (.tuple #[v, .int .i64 (readE l ls)]) ∧ AnsH w.heap.size w' v (readE l ls) l ls ∧ Below w.heap.size w w' := by
  have HH := hid h
  have HL := hid h.1
  have HO := hid hok
  have HS := hid hl
  have HSL := hid hl.1.1
  have HSO := hid hlo
  have B0 := hid ((Below.refl w.heap.size w).alloc (Nat.le_refl _) (.cells #[.map none, .map none] 49))
  have CK := hid (fun W (hW : Below w.heap.size w W) => check_q a len cap l W (h.below hW) hok)
  have AD := hid (fun W (hW : Below w.heap.size w W) => uadd_any b ln cp ls W (hl.below hW) hlo)
  clear h hok hl hlo
  have c0 : (w.alloc (.cells #[.map none, .map none] 49)).cell? ⟨w.heap.size, 0, none⟩ = some (.map none) := by simp [go_sem]
  have c1 : (w.alloc (.cells #[.map none, .map none] 49)).cell? ⟨w.heap.size, 1, none⟩ = some (.map none) := by simp [go_sem]
  have f0 : (w.alloc (.cells #[.map none, .map none] 49)).frozen? ⟨w.heap.size, 0, none⟩ = false := by simp [go_sem]
  have f1 : (w.alloc (.cells #[.map none, .map none] 49)).frozen? ⟨w.heap.size, 1, none⟩ = false := by simp [go_sem]
  by_cases e1 : chkE l = 0
  case neg =>
    have ER : Hid (readE l ls = chkE l) := by unfold Hid readE; rw [if_neg e1]
    have t : (chkE l != 0) = true := by simpa using e1
    have E1 := hid e1
    clear e1
    generalize chkE l = CE at *
    go_enter Tryz.func12, Tryz.ntmps12
    go_wp2_with fail
    refine (CK.out _ B0.out).mono ?_
    rintro e w1 ⟨rfl, b1⟩
    have B1 := hid (B0.out.trans (b1.mono B0.out.size))
    replace f0 := keepf b1 c0 f0
    replace f1 := keepf b1 c1 f1
    replace c0 := keepc b1 c0
    replace c1 := keepc b1 c1
    go_wp2_with fail
    exact bodyPost_ret (v := .tuple #[.agg #[.map none, .map none], .int .i64 CE]) (by simp [results, Tryz.results12, go_sem, c0, c1]) rfl ⟨_, ret_h ER.out, .inl ⟨by rw [ER.out]; exact E1.out, rfl⟩, (B1.out.setCell (by simp) _).setCell (by simp) _⟩
  have t : (chkE l != 0) = false := by simpa using e1
  by_cases e2 : useErr ls = 0
  case neg =>
    have ER : Hid (readE l ls = useErr ls) := by unfold Hid readE; rw [if_pos e1, if_neg e2]
    have t2 : (useErr ls != 0) = true := by simpa using e2
    have E2 := hid e2
    rw [e1] at CK
    clear e1 e2 t
    generalize useErr ls = UE at *
    go_enter Tryz.func12, Tryz.ntmps12
    go_wp2_with fail
    refine (CK.out _ B0.out).mono ?_
    rintro e w1 ⟨rfl, b1⟩
    have B1 := hid (B0.out.trans (b1.mono B0.out.size))
    replace f0 := keepf b1 c0 f0
    replace f1 := keepf b1 c1 f1
    replace c0 := keepc b1 c0
    replace c1 := keepc b1 c1
    go_wp2_with fail
    refine (AD.out _ B1.out).mono ?_
    rintro e w2 ⟨v2, rfl, o2, b2⟩
    have B2 := hid (B1.out.trans (b2.mono B1.out.size))
    replace f0 := keepf b2 c0 f0
    replace f1 := keepf b2 c1 f1
    replace c0 := keepc b2 c0
    replace c1 := keepc b2 c1
    clear o2
    go_wp2_with fail
    exact bodyPost_ret (v := .tuple #[.agg #[.map none, .map none], .int .i64 UE]) (by simp [results, Tryz.results12, go_sem, c0, c1]) rfl ⟨_, ret_h ER.out, .inl ⟨by rw [ER.out]; exact E2.out, rfl⟩, (B2.out.setCell (by simp) _).setCell (by simp) _⟩
  have SU := hid (fun ub n uc W (hW : Below w.heap.size w W) (hu : HoldsU W ub n uc (useV ls)) => qsums_any a len cap l ub n uc (useV ls) W (HH.out.below hW) HO.out hu (useV_q HSO.out))
  have ER : Hid (readE l ls = sumsE l (useV ls)) := by unfold Hid readE; rw [if_pos e1, if_pos e2]
  rw [e1] at CK
  rw [e2] at AD
  clear t
  go_enter Tryz.func12, Tryz.ntmps12
  go_wp2_with fail
  refine (CK.out _ B0.out).mono ?_
  rintro e w1 ⟨rfl, b1⟩
  have B1 := hid (B0.out.trans (b1.mono B0.out.size))
  replace f0 := keepf b1 c0 f0
  replace f1 := keepf b1 c1 f1
  replace c0 := keepc b1 c0
  replace c1 := keepc b1 c1
  have HB1 : Hid (w.heap.size < w1.heap.size) := World.block_lt_of_cell? _ _ c0
  go_wp2_with fail
  refine (AD.out _ B1.out).mono ?_
  rintro e w2 ⟨v2, rfl, o2, b2⟩
  have B2 := hid (B1.out.trans (b2.mono B1.out.size))
  replace f0 := keepf b2 c0 f0
  replace f1 := keepf b2 c1 f1
  replace c0 := keepc b2 c0
  replace c1 := keepc b2 c1
  have o3 : ∃ b, v2 = .map (some b) ∧ w1.heap.size ≤ b ∧ UM w2 b ls.length (fun q => hasT ls q ls.length) (fun q => useT ls q ls.length) := by
    rcases o2 with ⟨h, _⟩ | ⟨_, h⟩
    · exact absurd rfl h
    · exact h
  obtain ⟨mu, rfl, hlo, hU⟩ := o3
  have HU := hid hU
  have HMU : Hid (w.heap.size < mu) := Nat.lt_of_lt_of_le HB1.out hlo
  have LI := hid (ulist_any w2 hU (by rw [HSL.out]; exact hn))
  clear o2 hU hlo b1 b2 AD CK
  go_wp2_with fail
  refine LI.out.mono ?_
  rintro e w3 ⟨v3, ids, rfl, hR, hle, hO, b3⟩
  have B3 := hid (B2.out.trans (b3.mono B2.out.size))
  have HU3 := hid (HU.out.below b3)
  replace f0 := keepf b3 c0 f0
  replace f1 := keepf b3 c1 f1
  replace c0 := keepc b3 c0
  replace c1 := keepc b3 c1
  have AN : AnsS w2.heap.size w3 v3 0 ls := .inr ⟨rfl, ids, hR, hle, hO⟩
  have O3 := (AN.is HSO.out rfl).1
  clear hR hle hO AN LI b3 HU
  obtain ⟨ua, uc, rfl⟩ := O3.form
  have S3 := hid (SU.out _ _ _ _ B3.out (O3.holds Us.cs_len))
  clear O3 SU
  by_cases e3 : sumsE l (useV ls) = 0
  case neg =>
    have t3 : (sumsE l (useV ls) != 0) = true := by simpa using e3
    have E3 := hid e3
    clear e3
    generalize sumsE l (useV ls) = SE at *
    go_wp2_with fail
    refine S3.out.mono ?_
    rintro e w4 ⟨v4, rfl, o4, b4⟩
    have B4 := hid (B3.out.trans (b4.mono B3.out.size))
    replace f0 := keepf b4 c0 f0
    replace f1 := keepf b4 c1 f1
    replace c0 := keepc b4 c0
    replace c1 := keepc b4 c1
    clear o4
    go_wp2_with fail
    exact bodyPost_ret (v := .tuple #[.agg #[.map none, .map none], .int .i64 SE]) (by simp [results, Tryz.results12, go_sem, c0, c1]) rfl ⟨_, ret_h ER.out, .inl ⟨by rw [ER.out]; exact E3.out, rfl⟩, (B4.out.setCell (by simp) _).setCell (by simp) _⟩
  rw [e3] at S3 ER
  have hmm := @run_makeMap Tryz.prog
  go_wp2_with fail
  refine S3.out.mono ?_
  rintro e w4 ⟨v4, rfl, o4, b4⟩
  have B4 := hid (B3.out.trans (b4.mono B3.out.size))
  have HU4 := hid (HU3.out.below b4)
  replace f0 := keepf b4 c0 f0
  replace f1 := keepf b4 c1 f1
  replace c0 := keepc b4 c0
  replace c1 := keepc b4 c1
  clear o4 S3 HU3 b4
  have BM := hid ((Below.refl w4.heap.size w4).alloc (Nat.le_refl _) (.map #[] 0))
  have Q0 : Hid (QMp ((w4.alloc (.map #[] 0)).alloc (.cells #[.map (some w4.heap.size), .map (some mu)] 49)) w4.heap.size 0 (fun id => qfT l id 0)) := (qmp_made w4).same (Below.heap_alloc _ _ _ (by simp))
  have BN := hid (BM.out.alloc BM.out.size (.cells #[.map (some w4.heap.size), .map (some mu)] 49))
  have z0 : ((w4.alloc (.map #[] 0)).alloc (.cells #[.map (some w4.heap.size), .map (some mu)] 49)).cell? ⟨w4.heap.size + 1, 0, none⟩ = some (.map (some w4.heap.size)) := by simp [go_sem]
  have z1 : ((w4.alloc (.map #[] 0)).alloc (.cells #[.map (some w4.heap.size), .map (some mu)] 49)).cell? ⟨w4.heap.size + 1, 1, none⟩ = some (.map (some mu)) := by simp [go_sem]
  have ZZ := hid (And.intro z0 z1)
  clear z0 z1 BM
  go_wp2_with fail
  obtain ⟨M, hM⟩ : ∃ M, M = w4.heap.size := ⟨_, rfl⟩
  go_loopw [45] (fun i wr => ∃ k : Nat, k ≤ len ∧ i = .int .i64 (k : Int) ∧ Hid (QMp wr w4.heap.size k (fun id => qfT l id k)) ∧ Hid (wr.cell? ⟨w4.heap.size + 1, 0, none⟩ = some (.map (some w4.heap.size)) ∧ wr.cell? ⟨w4.heap.size + 1, 1, none⟩ = some (.map (some mu))) ∧ Hid (Below w4.heap.size w4 wr)) (fun i _ => len - (intOf i).toNat)
  case atStart => exact ⟨0, by omega, rfl, Q0, ZZ, BN⟩
  case round =>
    obtain ⟨k, hk, rfl, hQ, hZ, hB⟩ := hrel
    clear Q0 ZZ BN
    by_cases hlt : k < len
    · obtain ⟨qb, qo, rfl, RW⟩ := HH.out.row (by omega)
      obtain ⟨d0, d1, d2, d3, d4, d5, d6⟩ := (((RW.below B4.out)).below hB.out).2 k (by rw [HL.out]; exact hlt)
      have hq := (qa_ok HO.out k).1
      have NF : Hid ((fun id => qfT l id (k + 1)) = fun id => if (qa l k).id = id then some (qa l k) else qfT l id k) := rfl
      have y0 := hZ.out.1
      have y1 := hZ.out.2
      have hlt2 : w4.heap.size + 1 < wr.heap.size := World.block_lt_of_cell? _ _ y0
      have hcap := HH.out.2.1
      have hcm := HH.out.2.2.1
      have ka : (0 : Int) ≤ (k : Int) := by omega
      have kb : (k : Int) < (len : Int) := by omega
      generalize hqa : qa l k = q at *
      have HQA := hid hqa
      clear hqa
      have PT : ∃ w', Sem.run Tryz.prog (Instr.mapUpdate 45 (.map (some w4.heap.size)) (.int .i64 q.id) (.agg #[.int .i64 q.id, .int .i64 q.par, .int .i64 q.wt, .int .i64 q.qc, .int .i64 q.qm, .int .i64 q.mc, .int .i64 q.mm])) (wr.alloc (.cells #[.int .i64 q.id, .int .i64 q.par, .int .i64 q.wt, .int .i64 q.qc, .int .i64 q.qm, .int .i64 q.mc, .int .i64 q.mm] 38)) = .ok () w' ∧ QMp w' w4.heap.size (k + 1) (fun y => if q.id = y then some q else qfT l y k) ∧ (wr.alloc (.cells #[.int .i64 q.id, .int .i64 q.par, .int .i64 q.wt, .int .i64 q.qc, .int .i64 q.qm, .int .i64 q.mc, .int .i64 q.mm] 38)).grownBy w' (some w4.heap.size) :=
        ((hQ.out.same (Below.heap_alloc _ _ _ hQ.out.lt)) : QMp (wr.alloc (.cells #[.int .i64 q.id, .int .i64 q.par, .int .i64 q.wt, .int .i64 q.qc, .int .i64 q.qm, .int .i64 q.mc, .int .i64 q.mm] 38)) w4.heap.size k (fun id => qfT l id k)).put hq (by unfold maxLen; omega)
      obtain ⟨w5, hrun5, hQ5, hg5⟩ := PT
      have HQ5 := hid hQ5
      have HG5 := hid hg5
      clear hQ5 hg5 RW hZ
      obtain ⟨q1, q2, q3, q4, q5, q6, q7⟩ := q
      simp only at d0 d1 d2 d3 d4 d5 d6 hrun5 HG5 HQ5 NF HQA
      have x0 := keepc ((Below.refl wr.heap.size wr).alloc (Nat.le_refl _) (.cells #[.int .i64 q1, .int .i64 q2, .int .i64 q3, .int .i64 q4, .int .i64 q5, .int .i64 q6, .int .i64 q7] 38)) y0
      have x1 := keepc ((Below.refl wr.heap.size wr).alloc (Nat.le_refl _) (.cells #[.int .i64 q1, .int .i64 q2, .int .i64 q3, .int .i64 q4, .int .i64 q5, .int .i64 q6, .int .i64 q7] 38)) y1
      go_wp2_with fail
      have HB5 := HG5.out.block (w4.heap.size + 1) (by simp; omega) (by simp)
      have Z5 : Hid (w5.cell? ⟨w4.heap.size + 1, 0, none⟩ = some (.map (some w4.heap.size)) ∧ w5.cell? ⟨w4.heap.size + 1, 1, none⟩ = some (.map (some mu))) := ⟨(World.cell?_of_block HB5).trans x0, (World.cell?_of_block HB5).trans x1⟩
      have HQ6 : Hid (QMp w5 w4.heap.size (k + 1) (fun id => qfT l id (k + 1))) := by unfold Hid; rw [NF.out]; exact HQ5.out
      refine ⟨⟨k + 1, by omega, by go_num, HQ6, Z5, (hB.out.alloc hB.out.size _).grown HG5.out (hB.out.alloc hB.out.size _).size (fun i e => by cases e; exact Nat.le_refl _)⟩, ?_⟩
      simp [intOf]; omega
    · obtain rfl : k = len := by omega
      have r0 := keepc hB.out c0
      have r1 := keepc hB.out c1
      have g0 := keepf hB.out c0 f0
      have g1 := keepf hB.out c1 f1
      have y0 := hZ.out.1
      have y1 := hZ.out.2
      have hBW := hid (B4.out.trans (hB.out.mono B4.out.size))
      have HUE := hid (HU4.out.below hB.out)
      have HW4 : Hid (w.heap.size < w4.heap.size) := World.block_lt_of_cell? _ _ c0
      clear c0 c1 f0 f1 hZ
      have hw4 : w.heap.size < w4.heap.size := HW4.out
      go_wp2_with fail
      exact bodyPost_ret (v := .tuple #[.agg #[.map (some w4.heap.size), .map (some mu)], .int .i64 0]) (by simp [results, Tryz.results12, go_sem, r0, r1]) rfl ⟨_, ret_h ER.out, .inr ⟨ER.out, w4.heap.size, mu, rfl, B4.out.size, Nat.le_of_lt HMU.out, by
        rw [HL.out]
        exact (hQ.out.same ((heap_setCell_other _ _ _ _ (by show w4.heap.size ≠ w.heap.size; omega)).trans (heap_setCell_other _ _ _ _ (by show w4.heap.size ≠ w.heap.size; omega)))), HUE.out.same ((heap_setCell_other _ _ _ _ (by have := HMU.out; show mu ≠ w.heap.size; omega)).trans (heap_setCell_other _ _ _ _ (by have := HMU.out; show mu ≠ w.heap.size; omega)))⟩, (hBW.out.setCell (by simp) _).setCell (by simp) _⟩
end Go.Proofs.YtdbkjcnanffibaaGreat

namespace Go.Proofs.YtdbkjcnanffibaaGreat
open Go.RowKit Go.Deep Go.Maps Go.Shelf
set_option linter.unusedVariables false
set_option linter.unusedSimpArgs false

/-- Does what a queue uses cover its Min without so much? -/
def mayB (f : Int → Option Qu) (g : Int → Int × Int) (q c m : Int) : Bool := fitB ((f q).getD q0).mc ((f q).getD q0).mm (rop (g q) (c, m) ((g q).1 - c, (g q).2 - m)).1.1 (rop (g q) (c, m) ((g q).1 - c, (g q).2 - m)).1.2
theorem run_min (a b c d e f g : Int) (w : World) : Sem.run Tryz.prog (Instr.field 38 (.agg #[.int .i64 a, .int .i64 b, .int .i64 c, .int .i64 d, .int .i64 e, .int .i64 f, .int .i64 g]) 4) w = .ok (.agg #[.int .i64 f, .int .i64 g]) w := by kernel_rfl

set_option maxRecDepth 100000 in
set_option maxHeartbeats 4000000 in
theorem umay_any {mq mu n m : Nat} {f : Int → Option Qu} {h : Int → Bool} {g : Int → Int × Int} (x1 x2 x3 x5 x6 x7 : Int) (sa : Option Addr) (sl sc : Nat) (x8 : Bool) (w : World) (hQ : QMp w mq n f) (hU : UM w mu m h g) (hx : I64 x2) :
    Calls Tryz.prog 42 #[.agg #[.map (some mq), .map (some mu)], .agg #[.int .i64 x1, .int .i64 x2, .int .i64 x3, .slice sa sl sc, .int .i64 x5, .int .i64 x6, .int .i64 x7, .bool x8]] w fun e w' => e = .returned (.bool (mayB f g x2 sl x5)) ∧ Below w.heap.size w w' := by
  have VA_ : ∃ R1 R2 RE : Int, Hid (∀ W, Calls Tryz.prog 63 #[.agg #[.int .i64 (g x2).1, .int .i64 (g x2).2], .agg #[.int .i64 (sl : Int), .int .i64 x5]] W fun e w' => e = .returned (.tuple #[.agg #[.int .i64 R1, .int .i64 R2], .int .i64 RE]) ∧ Below W.heap.size W w') ∧ Hid (mayB f g x2 sl x5 = fitB ((f x2).getD q0).mc ((f x2).getD q0).mm R1 R2) :=
    ⟨_, _, _, fun W => vsub_any (g x2).1 (g x2).2 (sl : Int) x5 W, rfl⟩
  obtain ⟨R1, R2, RE, VA_, HR⟩ := VA_
  have LK := hid (fun W (hW : UM W mu m h g) => hW.look hx)
  obtain ⟨q, hq⟩ : ∃ q, (f x2).getD q0 = q := ⟨_, rfl⟩
  have LQ := hid (fun W (hW : QMp W mq n f) => hW.look hx hq)
  rw [hq] at HR
  rw [HR.out]
  clear hq HR
  generalize hg : g x2 = gg at *
  clear hg
  obtain ⟨g1, g2⟩ := gg
  obtain ⟨q1, q2, q3, q4, q5, q6, q7⟩ := q
  simp only at VA_ LK LQ
  have FI := hid (fun W => fits_any q6 q7 R1 R2 W)
  generalize fitB q6 q7 R1 R2 = FB at *
  have BA : Hid (Below w.heap.size w ((w.alloc (.cells #[.map (some mq), .map (some mu)] 49)).alloc (.cells #[.int .i64 x1, .int .i64 x2, .int .i64 x3, .slice sa sl sc, .int .i64 x5, .int .i64 x6, .int .i64 x7, .bool x8] 42))) := ((Below.refl _ w).alloc (Nat.le_refl _) _).alloc (by simp) _
  have U0 : UM ((w.alloc (.cells #[.map (some mq), .map (some mu)] 49)).alloc (.cells #[.int .i64 x1, .int .i64 x2, .int .i64 x3, .slice sa sl sc, .int .i64 x5, .int .i64 x6, .int .i64 x7, .bool x8] 42)) mu m h g := hU.below BA.out
  have Q0 : QMp ((w.alloc (.cells #[.map (some mq), .map (some mu)] 49)).alloc (.cells #[.int .i64 x1, .int .i64 x2, .int .i64 x3, .slice sa sl sc, .int .i64 x5, .int .i64 x6, .int .i64 x7, .bool x8] 42)) mq n f := hQ.below BA.out
  have m8 : ((w.alloc (.cells #[.map (some mq), .map (some mu)] 49)).alloc (.cells #[.int .i64 x1, .int .i64 x2, .int .i64 x3, .slice sa sl sc, .int .i64 x5, .int .i64 x6, .int .i64 x7, .bool x8] 42)).cell? ⟨w.heap.size, 1, none⟩ = some (.map (some mu)) := by simp [go_sem]
  have m9 : ((w.alloc (.cells #[.map (some mq), .map (some mu)] 49)).alloc (.cells #[.int .i64 x1, .int .i64 x2, .int .i64 x3, .slice sa sl sc, .int .i64 x5, .int .i64 x6, .int .i64 x7, .bool x8] 42)).cell? ⟨w.heap.size, 0, none⟩ = some (.map (some mq)) := by simp [go_sem]
  have m0 : ((w.alloc (.cells #[.map (some mq), .map (some mu)] 49)).alloc (.cells #[.int .i64 x1, .int .i64 x2, .int .i64 x3, .slice sa sl sc, .int .i64 x5, .int .i64 x6, .int .i64 x7, .bool x8] 42)).cell? ⟨w.heap.size + 1, 0, none⟩ = some (.int .i64 x1) := by simp [go_sem]
  have m1 : ((w.alloc (.cells #[.map (some mq), .map (some mu)] 49)).alloc (.cells #[.int .i64 x1, .int .i64 x2, .int .i64 x3, .slice sa sl sc, .int .i64 x5, .int .i64 x6, .int .i64 x7, .bool x8] 42)).cell? ⟨w.heap.size + 1, 1, none⟩ = some (.int .i64 x2) := by simp [go_sem]
  have m2 : ((w.alloc (.cells #[.map (some mq), .map (some mu)] 49)).alloc (.cells #[.int .i64 x1, .int .i64 x2, .int .i64 x3, .slice sa sl sc, .int .i64 x5, .int .i64 x6, .int .i64 x7, .bool x8] 42)).cell? ⟨w.heap.size + 1, 2, none⟩ = some (.int .i64 x3) := by simp [go_sem]
  have m3 : ((w.alloc (.cells #[.map (some mq), .map (some mu)] 49)).alloc (.cells #[.int .i64 x1, .int .i64 x2, .int .i64 x3, .slice sa sl sc, .int .i64 x5, .int .i64 x6, .int .i64 x7, .bool x8] 42)).cell? ⟨w.heap.size + 1, 3, none⟩ = some (.slice sa sl sc) := by simp [go_sem]
  have m4 : ((w.alloc (.cells #[.map (some mq), .map (some mu)] 49)).alloc (.cells #[.int .i64 x1, .int .i64 x2, .int .i64 x3, .slice sa sl sc, .int .i64 x5, .int .i64 x6, .int .i64 x7, .bool x8] 42)).cell? ⟨w.heap.size + 1, 4, none⟩ = some (.int .i64 x5) := by simp [go_sem]
  have m5 : ((w.alloc (.cells #[.map (some mq), .map (some mu)] 49)).alloc (.cells #[.int .i64 x1, .int .i64 x2, .int .i64 x3, .slice sa sl sc, .int .i64 x5, .int .i64 x6, .int .i64 x7, .bool x8] 42)).cell? ⟨w.heap.size + 1, 5, none⟩ = some (.int .i64 x6) := by simp [go_sem]
  have m6 : ((w.alloc (.cells #[.map (some mq), .map (some mu)] 49)).alloc (.cells #[.int .i64 x1, .int .i64 x2, .int .i64 x3, .slice sa sl sc, .int .i64 x5, .int .i64 x6, .int .i64 x7, .bool x8] 42)).cell? ⟨w.heap.size + 1, 6, none⟩ = some (.int .i64 x7) := by simp [go_sem]
  have m7 : ((w.alloc (.cells #[.map (some mq), .map (some mu)] 49)).alloc (.cells #[.int .i64 x1, .int .i64 x2, .int .i64 x3, .slice sa sl sc, .int .i64 x5, .int .i64 x6, .int .i64 x7, .bool x8] 42)).cell? ⟨w.heap.size + 1, 7, none⟩ = some (.bool x8) := by simp [go_sem]
  clear hQ hU
  go_enter Tryz.func42, Tryz.ntmps42
  go_upto_region 1 with fail
  generalize hW0 : ((w.alloc (.cells #[.map (some mq), .map (some mu)] 49)).alloc (.cells #[.int .i64 x1, .int .i64 x2, .int .i64 x3, .slice sa sl sc, .int .i64 x5, .int .i64 x6, .int .i64 x7, .bool x8] 42)) = W0 at *
  clear hW0
  have BX := hid ((Below.refl W0.heap.size W0).drew)
  generalize hB0 : Array.size (World.heap w) = B0 at *
  have HB0 := hid hB0
  clear hB0
  have TUP := hid (fun Y (hY : Below W0.heap.size W0 Y) => (⟨keepc hY m8, keepc hY m0, keepc hY m1, keepc hY m2, keepc hY m3, keepc hY m4, keepc hY m5, keepc hY m6, keepc hY m7, U0.below hY⟩ : (World.cell? Y ⟨B0, 1, none⟩ = some (.map (some mu)) ∧ World.cell? Y ⟨B0 + 1, 0, none⟩ = some (.int .i64 x1) ∧ World.cell? Y ⟨B0 + 1, 1, none⟩ = some (.int .i64 x2) ∧ World.cell? Y ⟨B0 + 1, 2, none⟩ = some (.int .i64 x3) ∧ World.cell? Y ⟨B0 + 1, 3, none⟩ = some (.slice sa sl sc) ∧ World.cell? Y ⟨B0 + 1, 4, none⟩ = some (.int .i64 x5) ∧ World.cell? Y ⟨B0 + 1, 5, none⟩ = some (.int .i64 x6) ∧ World.cell? Y ⟨B0 + 1, 6, none⟩ = some (.int .i64 x7) ∧ World.cell? Y ⟨B0 + 1, 7, none⟩ = some (.bool x8) ∧ UM Y mu m h g)))
  have TUP0 := hid (fun Y (hY : Below W0.heap.size W0 Y) => And.intro (keepc hY m9) (And.intro (keepc hY m1) (Q0.below hY)))
  clear m0 m1 m2 m3 m4 m5 m6 m7 m8 m9
  refine wp_region_held_drew (S := fun w' => (World.cell? w' ⟨B0, 1, none⟩ = some (.map (some mu)) ∧ World.cell? w' ⟨B0 + 1, 0, none⟩ = some (.int .i64 x1) ∧ World.cell? w' ⟨B0 + 1, 1, none⟩ = some (.int .i64 x2) ∧ World.cell? w' ⟨B0 + 1, 2, none⟩ = some (.int .i64 x3) ∧ World.cell? w' ⟨B0 + 1, 3, none⟩ = some (.slice sa sl sc) ∧ World.cell? w' ⟨B0 + 1, 4, none⟩ = some (.int .i64 x5) ∧ World.cell? w' ⟨B0 + 1, 5, none⟩ = some (.int .i64 x6) ∧ World.cell? w' ⟨B0 + 1, 6, none⟩ = some (.int .i64 x7) ∧ World.cell? w' ⟨B0 + 1, 7, none⟩ = some (.bool x8) ∧ UM w' mu m h g)) (by kernel_rfl) (TUP.out _ BX.out) (fun hHeld => ?_)
  refine wpAnyH_take (i := 0) (v := .pointer (some ⟨B0, 1, none⟩)) rfl (by kernel_rfl) (by kernel_rfl) (by kernel_rfl) (fun _ _ _ h => h) (Or.inl ⟨by rfl, ?_⟩) (by assumption) ?_
  · (intro w hSw;  (try dsimp only at hSw); go_simp)
  (try simp only [Act.put, List.getElem_toArray, List.getElem_cons_succ, List.getElem_cons_zero, List.setIfInBounds_toArray, List.set_cons_zero, List.set_cons_succ])
  refine wpAnyH_take (i := 1) (v := .map (some mu)) rfl (by kernel_rfl) (by kernel_rfl) (by kernel_rfl) (fun _ _ _ h => h) (Or.inl ⟨by rfl, ?_⟩) (by assumption) ?_
  · (intro w hSw;  (try dsimp only at hSw); go_simp)
  (try simp only [Act.put, List.getElem_toArray, List.getElem_cons_succ, List.getElem_cons_zero, List.setIfInBounds_toArray, List.set_cons_zero, List.set_cons_succ])
  refine wpAnyH_take (i := 2) (v := .pointer (some ⟨B0 + 1, 1, none⟩)) rfl (by kernel_rfl) (by kernel_rfl) (by kernel_rfl) (fun _ _ _ h => h) (Or.inl ⟨by rfl, ?_⟩) (by assumption) ?_
  · (intro w hSw;  (try dsimp only at hSw); go_simp)
  (try simp only [Act.put, List.getElem_toArray, List.getElem_cons_succ, List.getElem_cons_zero, List.setIfInBounds_toArray, List.set_cons_zero, List.set_cons_succ])
  refine wpAnyH_take (i := 3) (v := .int .i64 x2) rfl (by kernel_rfl) (by kernel_rfl) (by kernel_rfl) (fun _ _ _ h => h) (Or.inl ⟨by rfl, ?_⟩) (by assumption) ?_
  · (intro w hSw;  (try dsimp only at hSw); go_simp)
  (try simp only [Act.put, List.getElem_toArray, List.getElem_cons_succ, List.getElem_cons_zero, List.setIfInBounds_toArray, List.set_cons_zero, List.set_cons_succ])
  refine wpAnyH_take (i := 4) (v := .agg #[.int .i64 g1, .int .i64 g2]) rfl (by kernel_rfl) (by kernel_rfl) (by kernel_rfl) (fun _ _ _ h => h) (Or.inl ⟨by rfl, ?_⟩) (by assumption) ?_
  · (intro w hSw; have hlk := LK.out _ hSw.2.2.2.2.2.2.2.2.2; (try dsimp only at hSw); go_simp)
  (try simp only [Act.put, List.getElem_toArray, List.getElem_cons_succ, List.getElem_cons_zero, List.setIfInBounds_toArray, List.set_cons_zero, List.set_cons_succ])
  refine wpAnyH_take (i := 5) (v := .agg #[.int .i64 x1, .int .i64 x2, .int .i64 x3, .slice sa sl sc, .int .i64 x5, .int .i64 x6, .int .i64 x7, .bool x8]) rfl (by kernel_rfl) (by kernel_rfl) (by kernel_rfl) (fun _ _ _ h => h) (Or.inl ⟨by rfl, ?_⟩) (by assumption) ?_
  · (intro w hSw;  (try dsimp only at hSw); go_simp)
  (try simp only [Act.put, List.getElem_toArray, List.getElem_cons_succ, List.getElem_cons_zero, List.setIfInBounds_toArray, List.set_cons_zero, List.set_cons_succ])
  refine wpAnyH_ready (rs := [6, 11]) (by kernel_rfl) (by simp) ?_
  refine AllReadyH.cons rfl (fun K hK => ?_) (AllReadyH.cons rfl (fun K hK => ?_) AllReadyH.nil)
  · go_simp
    refine (amount_any _ _ _ _ _ _ _ _ _ _ _).mono ?_
    rintro e y1 ⟨rfl, b1⟩
    replace BX := hid (BX.out.trans (b1.mono BX.out.size))
    refine hK.out _ _ (TUP.out _ BX.out) (fun hHeld => ?_)
    clear hK K
    (try simp only [Act.put, List.getElem_toArray, List.getElem_cons_succ, List.getElem_cons_zero, List.setIfInBounds_toArray, List.set_cons_zero, List.set_cons_succ])
    refine wpAnyH_ready (rs := [7, 11]) (by kernel_rfl) (by simp) ?_
    refine AllReadyH.cons rfl (fun K hK => ?_) (AllReadyH.cons rfl (fun K hK => ?_) AllReadyH.nil)
    · go_simp
      refine (VA_.out _).mono ?_
      rintro e y2 ⟨rfl, b2⟩
      replace BX := hid (BX.out.trans (b2.mono BX.out.size))
      refine hK.out _ _ (TUP.out _ BX.out) (fun hHeld => ?_)
      clear hK K
      (try simp only [Act.put, List.getElem_toArray, List.getElem_cons_succ, List.getElem_cons_zero, List.setIfInBounds_toArray, List.set_cons_zero, List.set_cons_succ])
      refine wpAnyH_take (i := 8) (v := .tuple #[.agg #[.int .i64 R1, .int .i64 R2], .int .i64 RE]) rfl (by kernel_rfl) (by kernel_rfl) (by kernel_rfl) (fun _ _ _ h => h) (Or.inl ⟨by rfl, ?_⟩) (by assumption) ?_
      · (intro w hSw;  (try dsimp only at hSw); go_simp)
      (try simp only [Act.put, List.getElem_toArray, List.getElem_cons_succ, List.getElem_cons_zero, List.setIfInBounds_toArray, List.set_cons_zero, List.set_cons_succ])
      refine wpAnyH_take (i := 9) (v := .agg #[.int .i64 R1, .int .i64 R2]) rfl (by kernel_rfl) (by kernel_rfl) (by kernel_rfl) (fun _ _ _ h => h) (Or.inl ⟨by rfl, ?_⟩) (by assumption) ?_
      · (intro w hSw;  (try dsimp only at hSw); go_simp)
      (try simp only [Act.put, List.getElem_toArray, List.getElem_cons_succ, List.getElem_cons_zero, List.setIfInBounds_toArray, List.set_cons_zero, List.set_cons_succ])
      refine wpAnyH_take (i := 10) (v := .int .i64 RE) rfl (by kernel_rfl) (by kernel_rfl) (by kernel_rfl) (fun _ _ _ h => h) (Or.inl ⟨by rfl, ?_⟩) (by assumption) ?_
      · (intro w hSw;  (try dsimp only at hSw); go_simp)
      (try simp only [Act.put, List.getElem_toArray, List.getElem_cons_succ, List.getElem_cons_zero, List.setIfInBounds_toArray, List.set_cons_zero, List.set_cons_succ])
      refine wpAnyH_ready (rs := [11]) (by kernel_rfl) (by simp) ?_
      refine AllReadyH.cons rfl (fun K hK => ?_) AllReadyH.nil
      go_simp
      have z0 : (y2.alloc (.cells #[.int .i64 0, .int .i64 0] 33)).cell? ⟨y2.heap.size, 0, none⟩ = some (.int .i64 0) := by simp [go_sem]
      have z1 : (y2.alloc (.cells #[.int .i64 0, .int .i64 0] 33)).cell? ⟨y2.heap.size, 1, none⟩ = some (.int .i64 0) := by simp [go_sem]
      have f0 : (y2.alloc (.cells #[.int .i64 0, .int .i64 0] 33)).frozen? ⟨y2.heap.size, 0, none⟩ = false := by simp [go_sem]
      have f1 : (y2.alloc (.cells #[.int .i64 0, .int .i64 0] 33)).frozen? ⟨y2.heap.size, 1, none⟩ = false := by simp [go_sem]
      have hE := hid BX.out.size
      replace BX := hid (BX.out.alloc BX.out.size (.cells #[.int .i64 0, .int .i64 0] 33))
      generalize hyz : y2.alloc (.cells #[.int .i64 0, .int .i64 0] 33) = yz at *
      clear hyz
      generalize hyE : Array.size (World.heap y2) = E at *
      clear hyE
      refine hK.out _ _ (TUP.out _ BX.out) (fun hHeld => ?_)
      clear hK K
      (try simp only [Act.put, List.getElem_toArray, List.getElem_cons_succ, List.getElem_cons_zero, List.setIfInBounds_toArray, List.set_cons_zero, List.set_cons_succ])
      refine wpAnyH_ready (rs := [12]) (by kernel_rfl) (by simp) ?_
      refine AllReadyH.cons rfl (fun K hK => ?_) AllReadyH.nil
      go_simp
      have s0 : ((yz.setCell ⟨E, 0, none⟩ (.int .i64 R1)).setCell ⟨E, 1, none⟩ (.int .i64 R2)).cell? ⟨E, 0, none⟩ = some (.int .i64 R1) := by simp [go_sem, z0, z1, f0, f1]
      have s1 : ((yz.setCell ⟨E, 0, none⟩ (.int .i64 R1)).setCell ⟨E, 1, none⟩ (.int .i64 R2)).cell? ⟨E, 1, none⟩ = some (.int .i64 R2) := by simp [go_sem, z0, z1, f0, f1]
      replace BX : Hid (Below W0.heap.size W0 ((yz.setCell ⟨E, 0, none⟩ (.int .i64 R1)).setCell ⟨E, 1, none⟩ (.int .i64 R2))) := (BX.out.setCell (by exact hE.out) _).setCell (by exact hE.out) _
      clear z0 z1 f0 f1
      generalize hyv : (yz.setCell ⟨E, 0, none⟩ (.int .i64 R1)).setCell ⟨E, 1, none⟩ (.int .i64 R2) = yv at *
      clear hyv
      refine hK.out _ _ (TUP.out _ BX.out) (fun hHeld => ?_)
      clear hK K
      (try simp only [Act.put, List.getElem_toArray, List.getElem_cons_succ, List.getElem_cons_zero, List.setIfInBounds_toArray, List.set_cons_zero, List.set_cons_succ])
      refine wpAnyH_take (i := 13) (v := .int .i64 RE) rfl (by kernel_rfl) (by kernel_rfl) (by kernel_rfl) (fun _ _ _ h => h) (Or.inl ⟨by rfl, ?_⟩) (by assumption) ?_
      · (intro w hSw;  (try dsimp only at hSw); go_simp)
      (try simp only [Act.put, List.getElem_toArray, List.getElem_cons_succ, List.getElem_cons_zero, List.setIfInBounds_toArray, List.set_cons_zero, List.set_cons_succ])
      refine wpAnyH_done (by kernel_rfl) ?_ _
      have q0' := (TUP0.out _ BX.out).1
      have q1 := (TUP0.out _ BX.out).2.1
      have LQ1 := LQ.out yv ((TUP0.out _ BX.out).2.2)
      clear hHeld TUP LK VA_ TUP0 LQ
      have BW := hid (BA.out.trans (BX.out.mono (Nat.le_trans (Nat.le_of_eq HB0.out.symm) BA.out.size)))
      have hpf := run_min
      go_wp2_with fail
      refine (FI.out _).mono ?_
      rintro e y9 ⟨rfl, b9⟩
      have B9 := hid (BW.out.trans (b9.mono (Nat.le_trans (Nat.le_of_eq HB0.out.symm) BW.out.size)))
      clear b9
      go_wp2_with fail
      go_ret
      exact ⟨rfl, by rw [HB0.out]; exact B9.out⟩
    · go_simp
      have z0 : (y1.alloc (.cells #[.int .i64 0, .int .i64 0] 33)).cell? ⟨y1.heap.size, 0, none⟩ = some (.int .i64 0) := by simp [go_sem]
      have z1 : (y1.alloc (.cells #[.int .i64 0, .int .i64 0] 33)).cell? ⟨y1.heap.size, 1, none⟩ = some (.int .i64 0) := by simp [go_sem]
      have f0 : (y1.alloc (.cells #[.int .i64 0, .int .i64 0] 33)).frozen? ⟨y1.heap.size, 0, none⟩ = false := by simp [go_sem]
      have f1 : (y1.alloc (.cells #[.int .i64 0, .int .i64 0] 33)).frozen? ⟨y1.heap.size, 1, none⟩ = false := by simp [go_sem]
      have hE := hid BX.out.size
      replace BX := hid (BX.out.alloc BX.out.size (.cells #[.int .i64 0, .int .i64 0] 33))
      generalize hyz : y1.alloc (.cells #[.int .i64 0, .int .i64 0] 33) = yz at *
      clear hyz
      generalize hyE : Array.size (World.heap y1) = E at *
      clear hyE
      refine hK.out _ _ (TUP.out _ BX.out) (fun hHeld => ?_)
      clear hK K
      (try simp only [Act.put, List.getElem_toArray, List.getElem_cons_succ, List.getElem_cons_zero, List.setIfInBounds_toArray, List.set_cons_zero, List.set_cons_succ])
      refine wpAnyH_ready (rs := [7]) (by kernel_rfl) (by simp) ?_
      refine AllReadyH.cons rfl (fun K hK => ?_) AllReadyH.nil
      go_simp
      refine (VA_.out _).mono ?_
      rintro e y2 ⟨rfl, b2⟩
      replace BX := hid (BX.out.trans (b2.mono BX.out.size))
      replace f0 := keepf b2 z0 f0
      replace f1 := keepf b2 z1 f1
      replace z0 := keepc b2 z0
      replace z1 := keepc b2 z1
      refine hK.out _ _ (TUP.out _ BX.out) (fun hHeld => ?_)
      clear hK K
      (try simp only [Act.put, List.getElem_toArray, List.getElem_cons_succ, List.getElem_cons_zero, List.setIfInBounds_toArray, List.set_cons_zero, List.set_cons_succ])
      refine wpAnyH_take (i := 8) (v := .tuple #[.agg #[.int .i64 R1, .int .i64 R2], .int .i64 RE]) rfl (by kernel_rfl) (by kernel_rfl) (by kernel_rfl) (fun _ _ _ h => h) (Or.inl ⟨by rfl, ?_⟩) (by assumption) ?_
      · (intro w hSw;  (try dsimp only at hSw); go_simp)
      (try simp only [Act.put, List.getElem_toArray, List.getElem_cons_succ, List.getElem_cons_zero, List.setIfInBounds_toArray, List.set_cons_zero, List.set_cons_succ])
      refine wpAnyH_take (i := 9) (v := .agg #[.int .i64 R1, .int .i64 R2]) rfl (by kernel_rfl) (by kernel_rfl) (by kernel_rfl) (fun _ _ _ h => h) (Or.inl ⟨by rfl, ?_⟩) (by assumption) ?_
      · (intro w hSw;  (try dsimp only at hSw); go_simp)
      (try simp only [Act.put, List.getElem_toArray, List.getElem_cons_succ, List.getElem_cons_zero, List.setIfInBounds_toArray, List.set_cons_zero, List.set_cons_succ])
      refine wpAnyH_take (i := 10) (v := .int .i64 RE) rfl (by kernel_rfl) (by kernel_rfl) (by kernel_rfl) (fun _ _ _ h => h) (Or.inl ⟨by rfl, ?_⟩) (by assumption) ?_
      · (intro w hSw;  (try dsimp only at hSw); go_simp)
      (try simp only [Act.put, List.getElem_toArray, List.getElem_cons_succ, List.getElem_cons_zero, List.setIfInBounds_toArray, List.set_cons_zero, List.set_cons_succ])
      refine wpAnyH_ready (rs := [12]) (by kernel_rfl) (by simp) ?_
      refine AllReadyH.cons rfl (fun K hK => ?_) AllReadyH.nil
      go_simp
      have s0 : ((y2.setCell ⟨E, 0, none⟩ (.int .i64 R1)).setCell ⟨E, 1, none⟩ (.int .i64 R2)).cell? ⟨E, 0, none⟩ = some (.int .i64 R1) := by simp [go_sem, z0, z1, f0, f1]
      have s1 : ((y2.setCell ⟨E, 0, none⟩ (.int .i64 R1)).setCell ⟨E, 1, none⟩ (.int .i64 R2)).cell? ⟨E, 1, none⟩ = some (.int .i64 R2) := by simp [go_sem, z0, z1, f0, f1]
      replace BX : Hid (Below W0.heap.size W0 ((y2.setCell ⟨E, 0, none⟩ (.int .i64 R1)).setCell ⟨E, 1, none⟩ (.int .i64 R2))) := (BX.out.setCell (by exact hE.out) _).setCell (by exact hE.out) _
      clear z0 z1 f0 f1
      generalize hyv : (y2.setCell ⟨E, 0, none⟩ (.int .i64 R1)).setCell ⟨E, 1, none⟩ (.int .i64 R2) = yv at *
      clear hyv
      refine hK.out _ _ (TUP.out _ BX.out) (fun hHeld => ?_)
      clear hK K
      (try simp only [Act.put, List.getElem_toArray, List.getElem_cons_succ, List.getElem_cons_zero, List.setIfInBounds_toArray, List.set_cons_zero, List.set_cons_succ])
      refine wpAnyH_take (i := 13) (v := .int .i64 RE) rfl (by kernel_rfl) (by kernel_rfl) (by kernel_rfl) (fun _ _ _ h => h) (Or.inl ⟨by rfl, ?_⟩) (by assumption) ?_
      · (intro w hSw;  (try dsimp only at hSw); go_simp)
      (try simp only [Act.put, List.getElem_toArray, List.getElem_cons_succ, List.getElem_cons_zero, List.setIfInBounds_toArray, List.set_cons_zero, List.set_cons_succ])
      refine wpAnyH_done (by kernel_rfl) ?_ _
      have q0' := (TUP0.out _ BX.out).1
      have q1 := (TUP0.out _ BX.out).2.1
      have LQ1 := LQ.out yv ((TUP0.out _ BX.out).2.2)
      clear hHeld TUP LK VA_ TUP0 LQ
      have BW := hid (BA.out.trans (BX.out.mono (Nat.le_trans (Nat.le_of_eq HB0.out.symm) BA.out.size)))
      have hpf := run_min
      go_wp2_with fail
      refine (FI.out _).mono ?_
      rintro e y9 ⟨rfl, b9⟩
      have B9 := hid (BW.out.trans (b9.mono (Nat.le_trans (Nat.le_of_eq HB0.out.symm) BW.out.size)))
      clear b9
      go_wp2_with fail
      go_ret
      exact ⟨rfl, by rw [HB0.out]; exact B9.out⟩
  · go_simp
    have z0 : ((W0.alloc (.cells #[.int .i64 0, .int .i64 0] 33)).drew).cell? ⟨W0.heap.size, 0, none⟩ = some (.int .i64 0) := by simp [go_sem]
    have z1 : ((W0.alloc (.cells #[.int .i64 0, .int .i64 0] 33)).drew).cell? ⟨W0.heap.size, 1, none⟩ = some (.int .i64 0) := by simp [go_sem]
    have f0 : ((W0.alloc (.cells #[.int .i64 0, .int .i64 0] 33)).drew).frozen? ⟨W0.heap.size, 0, none⟩ = false := by simp [go_sem]
    have f1 : ((W0.alloc (.cells #[.int .i64 0, .int .i64 0] 33)).drew).frozen? ⟨W0.heap.size, 1, none⟩ = false := by simp [go_sem]
    have hE := hid (Nat.le_refl W0.heap.size)
    replace BX := hid (((Below.refl W0.heap.size W0).alloc (Nat.le_refl _) (.cells #[.int .i64 0, .int .i64 0] 33)).drew)
    generalize hyz : (W0.alloc (.cells #[.int .i64 0, .int .i64 0] 33)).drew = yz at *
    clear hyz
    refine hK.out _ _ (TUP.out _ BX.out) (fun hHeld => ?_)
    clear hK K
    (try simp only [Act.put, List.getElem_toArray, List.getElem_cons_succ, List.getElem_cons_zero, List.setIfInBounds_toArray, List.set_cons_zero, List.set_cons_succ])
    refine wpAnyH_ready (rs := [6]) (by kernel_rfl) (by simp) ?_
    refine AllReadyH.cons rfl (fun K hK => ?_) AllReadyH.nil
    go_simp
    refine (amount_any _ _ _ _ _ _ _ _ _ _ _).mono ?_
    rintro e y1 ⟨rfl, b1⟩
    replace BX := hid (BX.out.trans (b1.mono BX.out.size))
    replace f0 := keepf b1 z0 f0
    replace f1 := keepf b1 z1 f1
    replace z0 := keepc b1 z0
    replace z1 := keepc b1 z1
    refine hK.out _ _ (TUP.out _ BX.out) (fun hHeld => ?_)
    clear hK K
    (try simp only [Act.put, List.getElem_toArray, List.getElem_cons_succ, List.getElem_cons_zero, List.setIfInBounds_toArray, List.set_cons_zero, List.set_cons_succ])
    refine wpAnyH_ready (rs := [7]) (by kernel_rfl) (by simp) ?_
    refine AllReadyH.cons rfl (fun K hK => ?_) AllReadyH.nil
    go_simp
    refine (VA_.out _).mono ?_
    rintro e y2 ⟨rfl, b2⟩
    replace BX := hid (BX.out.trans (b2.mono BX.out.size))
    replace f0 := keepf b2 z0 f0
    replace f1 := keepf b2 z1 f1
    replace z0 := keepc b2 z0
    replace z1 := keepc b2 z1
    refine hK.out _ _ (TUP.out _ BX.out) (fun hHeld => ?_)
    clear hK K
    (try simp only [Act.put, List.getElem_toArray, List.getElem_cons_succ, List.getElem_cons_zero, List.setIfInBounds_toArray, List.set_cons_zero, List.set_cons_succ])
    refine wpAnyH_take (i := 8) (v := .tuple #[.agg #[.int .i64 R1, .int .i64 R2], .int .i64 RE]) rfl (by kernel_rfl) (by kernel_rfl) (by kernel_rfl) (fun _ _ _ h => h) (Or.inl ⟨by rfl, ?_⟩) (by assumption) ?_
    · (intro w hSw;  (try dsimp only at hSw); go_simp)
    (try simp only [Act.put, List.getElem_toArray, List.getElem_cons_succ, List.getElem_cons_zero, List.setIfInBounds_toArray, List.set_cons_zero, List.set_cons_succ])
    refine wpAnyH_take (i := 9) (v := .agg #[.int .i64 R1, .int .i64 R2]) rfl (by kernel_rfl) (by kernel_rfl) (by kernel_rfl) (fun _ _ _ h => h) (Or.inl ⟨by rfl, ?_⟩) (by assumption) ?_
    · (intro w hSw;  (try dsimp only at hSw); go_simp)
    (try simp only [Act.put, List.getElem_toArray, List.getElem_cons_succ, List.getElem_cons_zero, List.setIfInBounds_toArray, List.set_cons_zero, List.set_cons_succ])
    refine wpAnyH_take (i := 10) (v := .int .i64 RE) rfl (by kernel_rfl) (by kernel_rfl) (by kernel_rfl) (fun _ _ _ h => h) (Or.inl ⟨by rfl, ?_⟩) (by assumption) ?_
    · (intro w hSw;  (try dsimp only at hSw); go_simp)
    (try simp only [Act.put, List.getElem_toArray, List.getElem_cons_succ, List.getElem_cons_zero, List.setIfInBounds_toArray, List.set_cons_zero, List.set_cons_succ])
    refine wpAnyH_ready (rs := [12]) (by kernel_rfl) (by simp) ?_
    refine AllReadyH.cons rfl (fun K hK => ?_) AllReadyH.nil
    go_simp
    have s0 : ((y2.setCell ⟨W0.heap.size, 0, none⟩ (.int .i64 R1)).setCell ⟨W0.heap.size, 1, none⟩ (.int .i64 R2)).cell? ⟨W0.heap.size, 0, none⟩ = some (.int .i64 R1) := by simp [go_sem, z0, z1, f0, f1]
    have s1 : ((y2.setCell ⟨W0.heap.size, 0, none⟩ (.int .i64 R1)).setCell ⟨W0.heap.size, 1, none⟩ (.int .i64 R2)).cell? ⟨W0.heap.size, 1, none⟩ = some (.int .i64 R2) := by simp [go_sem, z0, z1, f0, f1]
    replace BX : Hid (Below W0.heap.size W0 ((y2.setCell ⟨W0.heap.size, 0, none⟩ (.int .i64 R1)).setCell ⟨W0.heap.size, 1, none⟩ (.int .i64 R2))) := (BX.out.setCell (by exact hE.out) _).setCell (by exact hE.out) _
    clear z0 z1 f0 f1
    generalize hyv : (y2.setCell ⟨W0.heap.size, 0, none⟩ (.int .i64 R1)).setCell ⟨W0.heap.size, 1, none⟩ (.int .i64 R2) = yv at *
    clear hyv
    refine hK.out _ _ (TUP.out _ BX.out) (fun hHeld => ?_)
    clear hK K
    (try simp only [Act.put, List.getElem_toArray, List.getElem_cons_succ, List.getElem_cons_zero, List.setIfInBounds_toArray, List.set_cons_zero, List.set_cons_succ])
    refine wpAnyH_take (i := 13) (v := .int .i64 RE) rfl (by kernel_rfl) (by kernel_rfl) (by kernel_rfl) (fun _ _ _ h => h) (Or.inl ⟨by rfl, ?_⟩) (by assumption) ?_
    · (intro w hSw;  (try dsimp only at hSw); go_simp)
    (try simp only [Act.put, List.getElem_toArray, List.getElem_cons_succ, List.getElem_cons_zero, List.setIfInBounds_toArray, List.set_cons_zero, List.set_cons_succ])
    refine wpAnyH_done (by kernel_rfl) ?_ _
    have q0' := (TUP0.out _ BX.out).1
    have q1 := (TUP0.out _ BX.out).2.1
    have LQ1 := LQ.out yv ((TUP0.out _ BX.out).2.2)
    clear hHeld TUP LK VA_ TUP0 LQ
    have BW := hid (BA.out.trans (BX.out.mono (Nat.le_trans (Nat.le_of_eq HB0.out.symm) BA.out.size)))
    have hpf := run_min
    go_wp2_with fail
    refine (FI.out _).mono ?_
    rintro e y9 ⟨rfl, b9⟩
    have B9 := hid (BW.out.trans (b9.mono (Nat.le_trans (Nat.le_of_eq HB0.out.symm) BW.out.size)))
    clear b9
    go_wp2_with fail
    go_ret
    exact ⟨rfl, by rw [HB0.out]; exact B9.out⟩
end Go.Proofs.YtdbkjcnanffibaaGreat

namespace Go.Proofs.YtdbkjcnanffibaaGreat
open Go.RowKit Go.Deep Go.Maps Go.Shelf
set_option linter.unusedVariables false
set_option linter.unusedSimpArgs false

theorem infoLe : (Tryz.prog.info? 42).map (fun i => (i.zero, i.size, i.bytes)) = some (some (.agg (Le.cs le0).toArray), 8, 80) := by kernel_rfl
/-- Those of the first k leases that aren't on their way out. -/
def lastT (l : List Le) : Nat → List Le
  | 0 => []
  | k + 1 => if (la l k).st = true then lastT l k else lastT l k ++ [la l k]
def lastL (l : List Le) : List Le := lastT l l.length
theorem lastT_le {l : List Le} : ∀ k, (lastT l k).length ≤ k := by
  intro k
  induction k with
  | zero => exact Nat.le_refl _
  | succ k ih =>
    unfold lastT
    split
    · omega
    · simp; omega
theorem lastT_mem {l : List Le} {x : Le} : ∀ {k : Nat}, k ≤ l.length → x ∈ lastT l k → x ∈ l := by
  intro k
  induction k with
  | zero => intro _ h; cases h
  | succ k ih =>
    intro hk h
    unfold lastT at h
    split at h
    · exact ih (by omega) h
    · rcases List.mem_append.1 h with h | h
      · exact ih (by omega) h
      · rw [List.mem_singleton.1 h]; exact la_mem (by omega)
theorem lastL_mem {l : List Le} {x : Le} (h : x ∈ lastL l) : x ∈ l := lastT_mem (Nat.le_refl _) h
theorem lastT_eq {l : List Le} : ∀ {k : Nat}, k ≤ l.length → lastT l k = (l.take k).filter (fun x => !x.st) := by
  intro k
  induction k with
  | zero => intro _; simp [lastT]
  | succ k ih =>
    intro hk
    unfold lastT
    rw [List.take_add_one, la_get (by omega), List.filter_append, ih (by omega)]
    cases h : (la l k).st <;> simp [h]
theorem lastL_eq (l : List Le) : lastL l = l.filter (fun x => !x.st) := by unfold lastL; rw [lastT_eq (Nat.le_refl _), List.take_length]

set_option maxRecDepth 100000 in
set_option maxHeartbeats 4000000 in
theorem lasting_any (a : Option Addr) (len cap : Nat) (l : List Le) (w : World) (h : HoldsL w a len cap l) (hn : len * 80 ≤ 140737488355328) :
    Calls Tryz.prog 23 #[.slice a len cap] w fun e w' => ∃ v, e = .returned v ∧ OwnE 42 8 Le.cs w.heap.size w' v (lastL l).length (lastL l) ∧ Below w.heap.size w w' := by
  have HQ := hid h
  have HL := hid h.1.1
  have hcap := h.1.2.1
  have hcm := h.1.2.2.1
  clear h
  go_enter Tryz.func23, Tryz.ntmps23
  go_wp2_with fail
  go_loopw [3, 8] (fun s i wr => ∃ k : Nat, k ≤ len ∧ i = .int .i64 (k : Int) ∧ Hid (OwnE 42 8 Le.cs w.heap.size wr s (lastT l k).length (lastT l k)) ∧ Hid (Below w.heap.size w wr)) (fun s i _ => len - (intOf i).toNat)
  case atStart => exact ⟨0, by omega, rfl, OwnE.nil _ _ _ _ _, Below.refl _ _⟩
  case round =>
    obtain ⟨k, hk, rfl, hO, hB⟩ := hrel
    by_cases hlt : k < len
    · have hlt' : k < l.length := by rw [HL.out]; exact hlt
      obtain ⟨b, off, rfl, hbl, Rw⟩ := HQ.out.1.rowL (by omega)
      obtain ⟨d1, d2, d3, d4, d5, d6, d7, d8⟩ := Rw k hlt
      have c1 := keepc hB.out d1
      have c2 := keepc hB.out d2
      have c3 := keepc hB.out d3
      have c4 := keepc hB.out d4
      have c5 := keepc hB.out d5
      have c6 := keepc hB.out d6
      have c7 := keepc hB.out d7
      have c8 := keepc hB.out d8
      have ka : (0 : Int) ≤ (k : Int) := by omega
      have kb : (k : Int) < (len : Int) := by omega
      have NX : Hid (lastT l (k + 1) = if (la l k).st = true then lastT l k else lastT l k ++ [la l k]) := rfl
      have hle := lastT_le (l := l) k
      clear d1 d2 d3 d4 d5 d6 d7 d8 Rw
      generalize hx : la l k = x at *
      have HX := hid hx
      clear hx
      generalize hln : (lastT l k).length = ln at *
      have HLN := hid hln
      clear hln
      obtain ⟨x1, x2, x3, sa, sl, sc, x5, x6, x7, x8, co⟩ := x
      simp only at c1 c2 c3 c4 c5 c6 c7 c8 NX
      cases x8
      · have NX2 : Hid (lastT l (k + 1) = lastT l k ++ [⟨x1, x2, x3, sa, sl, sc, x5, x6, x7, false, co⟩]) := by unfold Hid; rw [NX.out]; simp
        have BX := hid (hB.out.alloc hB.out.size (.cells #[.int .i64 x1, .int .i64 x2, .int .i64 x3, .slice sa sl sc, .int .i64 x5, .int .i64 x6, .int .i64 x7, .bool false] 42))
        have OX := hid (hO.out.below ((Below.refl wr.heap.size wr).alloc (Nat.le_refl _) (.cells #[.int .i64 x1, .int .i64 x2, .int .i64 x3, .slice sa sl sc, .int .i64 x5, .int .i64 x6, .int .i64 x7, .bool false] 42)))
        clear NX hO
        go_wp2_with (at_builtin; refine push_ownE 23 42 _ 80 Le.cs_len Le.one Tryz.underlying23 infoLe rfl (by decide) (wr.alloc (.cells #[.int .i64 x1, .int .i64 x2, .int .i64 x3, .slice sa sl sc, .int .i64 x5, .int .i64 x6, .int .i64 x7, .bool false] 42)) (⟨x1, x2, x3, sa, sl, sc, x5, x6, x7, false, co⟩ : Le) rfl (.tmp 15) (.tmp 17) rfl w.heap.size ln u3 _ _ rfl rfl OX.out BX.out.size (by simp [Act.eval]) (by omega) (by omega) ?_)
        intro v' w1 h1 h2 _
        have O1 := hid h1
        have hB1 := hid (BX.out.trans h2)
        clear h1 h2
        go_wp2_with fail
        refine ⟨⟨k + 1, by omega, by go_num, by unfold Hid; rw [NX2.out, List.length_append, HLN.out]; exact O1.out, hB1⟩, ?_⟩
        simp [intOf]; omega
      · have NX2 : Hid (lastT l (k + 1) = lastT l k) := by unfold Hid; rw [NX.out]; simp
        have BX := hid (hB.out.alloc hB.out.size (.cells #[.int .i64 x1, .int .i64 x2, .int .i64 x3, .slice sa sl sc, .int .i64 x5, .int .i64 x6, .int .i64 x7, .bool true] 42))
        have OX := hid (hO.out.below ((Below.refl wr.heap.size wr).alloc (Nat.le_refl _) (.cells #[.int .i64 x1, .int .i64 x2, .int .i64 x3, .slice sa sl sc, .int .i64 x5, .int .i64 x6, .int .i64 x7, .bool true] 42)))
        clear NX hO
        go_wp2_with fail
        refine ⟨⟨k + 1, by omega, by go_num, by unfold Hid; rw [NX2.out, HLN.out]; exact OX.out, BX⟩, ?_⟩
        simp [intOf]; omega
    · obtain rfl : k = len := by omega
      have O : Hid (OwnE 42 8 Le.cs w.heap.size wr u3 (lastL l).length (lastL l)) := by unfold Hid lastL; rw [HL.out]; exact hO.out
      clear hO
      go_wp2_with fail
      go_ret
      exact ⟨_, rfl, O.out, hB.out⟩
end Go.Proofs.YtdbkjcnanffibaaGreat
