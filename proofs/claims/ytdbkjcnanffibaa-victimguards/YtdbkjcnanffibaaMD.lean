/-
  'append' among operations whose order is drawn.
  Contracts of victim: starves.
  Contracts of victim: Starved.
  VictimGuards: what a need more makes of the uses; a row of uses that is turned.
-/
import Derived.Test.YtdbkjcnanffibaaMB
import Derived.Test.YtdbkjcnanffibaaMA
import Derived.BigQuiet
import Derived.Deep.QuietTactic
import Derived.Deep.Cut
import Derived.Test.YtdbkjcnanffibaaQM
namespace Go.Proofs.Ytdbkjcnanffibaa
open Go.RowKit Go.Deep Go.Maps Go.Shelf
set_option linter.unusedVariables false
set_option linter.unusedSimpArgs false

theorem appE_step {α : Type} {k : Nat} {enc : α → List Value} {ops : Array Oper} {o : Oper} {a : Act} {Q : Exit → Act → World → Prop} {K : Act → World → Prop} (T e : TypeId) (z : Value) (bytes : Nat) (hk : ∀ x, (enc x).length = k) (h1 : ∀ x, ∀ u ∈ enc x, u.oneCell' = true) (hT : Try.prog.underlying T = some (.slice e)) (hI : (Try.prog.info? e).map (fun i => (i.zero, i.size, i.bytes)) = some (some z, k, bytes)) (hz : z.cells.size = k) (hk0 : 0 < k)
    (wr : World) (hg : o.guard = none) (s y : Operand) (hop : o.op = Op.call { callee := Callee.builtin Builtin.append, args := #[s, y], argTypes := #[T, T] })
    (base n : Nat) (v : Value) (l : List α) (hs : a.eval s = v) (hown : OwnE e k enc base wr v n l) (hb : base ≤ wr.heap.size) (ao : Option Addr) (m c : Nat) (p : List α) (hx : a.eval y = .slice ao m c) (hp : HoldsE k enc wr ao m c p) (b0 : n + m ≤ 9223372036854775807) (b1 : (n + m) * bytes ≤ 140737488355328)
    (hK : ∀ v' w', OwnE e k enc base w' v' (n + m) (l ++ p) → Below base wr w' → wr.grownBy w' v.ownBlock → K (a.put o.dst v') w') :
    if Region.wanted o (yielded ops a.tmps) = true then Oper.wp Try.prog o a wr K Q else K (a.put o.dst undef) wr := by
  rw [if_pos (by simp [Region.wanted, hg])]
  obtain ⟨i0, hi, hz0, hz1, hz2⟩ := info_parts hI
  obtain ⟨p1, p2, p3, p6, p7⟩ := hp
  have hrow : ∀ g, v.ownBlock = some g → base ≤ g := fun g hk => (hown.lt g hk).1
  unfold Oper.wp
  by_cases hm : 0 < m
  · obtain ⟨b, off, rfl, hlt, hc⟩ := p7 hm
    obtain ⟨v', w', hrun, h3, h2, _⟩ := run_append_own (P := Try.prog) wr base T o.type e i0 z k bytes hT hi hz0 hz1 hz2 hz hk0 v n _ hown.2 ⟨b, off, none⟩ m c (p.flatMap enc) (by rw [flat_len hk, p1]) (by
      intro j u hj
      obtain ⟨j', x, i, rfl, hx, hu⟩ := flat_inv hk _ _ _ hj
      rw [Addr.add_lit, ← Nat.add_assoc]
      exact hc j' x hx i u hu) (by
      intro u hu
      obtain ⟨x, _, hx⟩ := List.mem_flatMap.1 hu
      exact h1 x u hx) (by unfold maxLen; omega) b1 hb
    simp [execOp, hop, resolve, invoke, builtin, hs, hx, hrun, Result.andThen]
    exact hK v' w' ⟨by simp [hown.len, p1], by simpa using h3⟩ ((Below.refl base wr).grown h2 hb hrow) h2
  · obtain rfl : m = 0 := by omega
    obtain rfl : p = [] := List.length_eq_zero_iff.1 p1
    cases ao with
    | none =>
      obtain ⟨_, rfl⟩ := p6 rfl
      have hrun := run_append_owned_none (P := Try.prog) (w := wr) base T o.type e i0 k hT hi v n _ hown.2
      simp [execOp, hop, resolve, invoke, builtin, hs, hx, hrun, Result.andThen]
      exact hK v wr (by simpa using hown) (Below.refl _ _) (World.grownBy.refl _ _)
    | some ad =>
      obtain ⟨v', w', hrun, h3, h2, _⟩ := run_append_own (P := Try.prog) wr base T o.type e i0 z k bytes hT hi hz0 hz1 hz2 hz hk0 v n _ hown.2 ad 0 c [] (by simp) (by simp) (by simp) (by unfold maxLen; omega) b1 hb
      simp [execOp, hop, resolve, invoke, builtin, hs, hx, hrun, Result.andThen]
      exact hK v' w' ⟨by simp [hown.len], by simpa using h3⟩ ((Below.refl base wr).grown h2 hb hrow) h2
theorem make_none (w : World) : (Instr.makeSlice 36 (.int .i64 0) (.int .i64 0)).run Try.prog w = .ok (.slice (some ⟨w.heap.size, 0, none⟩) 0 0) (w.alloc (.cells #[] 3)) := by kernel_rfl
end Go.Proofs.Ytdbkjcnanffibaa

namespace Go.Proofs.Ytdbkjcnanffibaa
open Go.RowKit Go.Deep Go.Maps Go.Shelf
set_option linter.unusedVariables false
set_option linter.unusedSimpArgs false

/-- Is what a leaf wants guaranteed to it beside what it uses? -/
def stB (f : Int → Option Qu) (g : Int → Int × Int) (q c m : Int) : Bool := decide ((rop (g q) (c, m) ((g q).1 + c, (g q).2 + m)).2 = 0) && fitB (rop (g q) (c, m) ((g q).1 + c, (g q).2 + m)).1.1 (rop (g q) (c, m) ((g q).1 + c, (g q).2 + m)).1.2 ((f q).getD q0).mc ((f q).getD q0).mm

set_option maxRecDepth 100000 in
set_option maxHeartbeats 4000000 in
theorem ustarves_any {mq mu n m : Nat} {f : Int → Option Qu} {h : Int → Bool} {g : Int → Int × Int} (u1 u2 u3 : Int) (w : World) (hQ : QMp w mq n f) (hU : UM w mu m h g) (hx : I64 u1) :
    Calls Try.prog 29 #[.agg #[.map (some mq), .map (some mu)], .agg #[.int .i64 u1, .int .i64 u2, .int .i64 u3]] w fun e w' => e = .returned (.bool (stB f g u1 u2 u3)) ∧ Below w.heap.size w w' := by
  obtain ⟨q, hq⟩ : ∃ q, (f u1).getD q0 = q := ⟨_, rfl⟩
  have VA_ : ∃ R1 R2 RE : Int, Hid (∀ W, Calls Try.prog 35 #[.agg #[.int .i64 (g u1).1, .int .i64 (g u1).2], .agg #[.int .i64 u2, .int .i64 u3]] W fun e w' => e = .returned (.tuple #[.agg #[.int .i64 R1, .int .i64 R2], .int .i64 RE]) ∧ Below W.heap.size W w') ∧ Hid (stB f g u1 u2 u3 = (decide (RE = 0) && fitB R1 R2 q.mc q.mm)) :=
    ⟨_, _, _, fun W => vadd_any (g u1).1 (g u1).2 u2 u3 W, by unfold Hid stB; rw [hq]⟩
  obtain ⟨R1, R2, RE, VA_, HR⟩ := VA_
  have LQ := hid (fun W (hW : QMp W mq n f) => hW.look hx hq)
  have BA : Hid (Below w.heap.size w ((w.alloc (.cells #[.map (some mq), .map (some mu)] 64)).alloc (.cells #[.int .i64 u1, .int .i64 u2, .int .i64 u3] 45))) := ((Below.refl _ w).alloc (Nat.le_refl _) _).alloc (by simp) _
  have U0 : UM ((w.alloc (.cells #[.map (some mq), .map (some mu)] 64)).alloc (.cells #[.int .i64 u1, .int .i64 u2, .int .i64 u3] 45)) mu m h g := hU.below BA.out
  have Q0 := hid (show QMp ((w.alloc (.cells #[.map (some mq), .map (some mu)] 64)).alloc (.cells #[.int .i64 u1, .int .i64 u2, .int .i64 u3] 45)) mq n f from hQ.below BA.out)
  have LK := U0.look hx
  have m9 : ((w.alloc (.cells #[.map (some mq), .map (some mu)] 64)).alloc (.cells #[.int .i64 u1, .int .i64 u2, .int .i64 u3] 45)).cell? ⟨w.heap.size, 0, none⟩ = some (.map (some mq)) := by simp [go_sem]
  have m0 : ((w.alloc (.cells #[.map (some mq), .map (some mu)] 64)).alloc (.cells #[.int .i64 u1, .int .i64 u2, .int .i64 u3] 45)).cell? ⟨w.heap.size + 1, 0, none⟩ = some (.int .i64 u1) := by simp [go_sem]
  clear hq U0 hQ hU
  generalize hg : g u1 = gg at *
  clear hg
  obtain ⟨g1, g2⟩ := gg
  obtain ⟨q1, q2, q3, q4, q5, q6, q7⟩ := q
  simp only at VA_ LK LQ HR
  have FI := hid (fun W => fits_any R1 R2 q6 q7 W)
  generalize fitB R1 R2 q6 q7 = FB at *
  go_enter Try.func29, Try.ntmps29
  go_wp2_with fail
  refine (VA_.out _).mono ?_
  rintro e y1 ⟨rfl, b1⟩
  have BX := hid (BA.out.trans (b1.mono BA.out.size))
  have BY := hid (BX.out.alloc BX.out.size (.cells #[.int .i64 R1, .int .i64 R2] 32))
  have bz := b1.trans ((((Below.refl y1.heap.size y1).alloc (Nat.le_refl _) (.cells #[.int .i64 R1, .int .i64 R2] 32))).mono b1.size)
  have s9 := keepc bz m9
  have s0 := keepc bz m0
  have LQ2 := LQ.out _ (Q0.out.below bz)
  have hrm := run_min
  clear b1 VA_ LK LQ Q0 m9 m0 bz
  by_cases e1 : RE = 0
  · subst e1
    go_wp2_with fail
    refine (FI.out _).mono ?_
    rintro e y2 ⟨rfl, b2⟩
    have B2 := hid (BY.out.trans (b2.mono BY.out.size))
    clear b2
    go_wp2_with fail
    go_ret
    exact ⟨by rw [HR.out]; simp, B2.out⟩
  · have t : (RE == 0) = false := by simpa using e1
    have H2 : Hid (stB f g u1 u2 u3 = false) := by unfold Hid; rw [HR.out, decide_eq_false e1]; rfl
    clear HR
    go_wp2_with fail
    go_ret
    exact ⟨congrArg (fun b => Ending.returned (.bool b)) H2.out.symm, BY.out⟩
end Go.Proofs.Ytdbkjcnanffibaa

namespace Go.Proofs.Ytdbkjcnanffibaa
open Go.RowKit Go.Deep Go.Maps Go.Shelf
set_option linter.unusedVariables false
set_option linter.unusedSimpArgs false

/-- The error of the first k needs. -/
def ndE (l : List Qu) (nd : List Us) : Nat → Int
  | 0 => 0
  | k + 1 => if ndE l nd k ≠ 0 then ndE l nd k else if 0 < k ∧ (ua nd k).qu ≤ (ua nd (k - 1)).qu then 4 else useE l (ua nd k)
/-- Who of the first k is starved. -/
def stT (f : Int → Option Qu) (g : Int → Int × Int) (nd : List Us) : Nat → List Int
  | 0 => []
  | k + 1 => if stB f g (ua nd k).qu (ua nd k).uc (ua nd k).um = true then stT f g nd k ++ [(ua nd k).qu] else stT f g nd k
theorem stT_len {f : Int → Option Qu} {g : Int → Int × Int} {nd : List Us} : ∀ k, (stT f g nd k).length ≤ k := by
  intro k
  induction k with
  | zero => exact Nat.le_refl _
  | succ k ih => unfold stT; split <;> (try rw [List.length_append]) <;> (try simp only [List.length_cons, List.length_nil]) <;> omega
theorem ndE_stay {l : List Qu} {nd : List Us} {k : Nat} (h : ndE l nd k ≠ 0) : ∀ {n : Nat}, k ≤ n → ndE l nd n = ndE l nd k := by
  intro n
  induction n with
  | zero => intro h1; obtain rfl : k = 0 := by omega
            rfl
  | succ n ih =>
    intro h1
    rcases Nat.lt_or_ge k (n + 1) with h2 | h2
    · have := ih (by omega)
      show (if ndE l nd n ≠ 0 then _ else _) = _
      rw [if_pos (by rw [this]; exact h), this]
    · obtain rfl : k = n + 1 := by omega
      rfl
def starvE (l : List Qu) (ls : List Le) (nd : List Us) : Int := if readE l ls = 0 then ndE l nd nd.length else readE l ls
def starvL (l : List Qu) (ls : List Le) (nd : List Us) : List Int := if starvE l ls nd = 0 then stT (fun id => qfT l id l.length) (fun q => useT ls q ls.length) nd nd.length else []
theorem starvL_no {l : List Qu} {ls : List Le} {nd : List Us} (h : starvE l ls nd ≠ 0) : starvL l ls nd = [] := by unfold starvL; rw [if_neg h]
/-- The error of a single use. -/
theorem sumsE_one {l : List Qu} (hC : chkE l = 0) (u : Us) : sumsE l [u] = useE l u := by
  by_cases h : useE l u = 0
  · have hA : ∀ v ∈ [u], useE l v = 0 := fun v hv => by rw [List.mem_singleton.1 hv]; exact h
    have hz := useE_zero h
    rw [h]
    unfold sumsE
    rw [if_neg (by simp [hC]), if_neg (by rw [usesE_good hA]; simp), if_neg]
    rw [fitsB_yes (fun k hk => ?_)]
    · decide
    · unfold vecAt
      simp only [sumU]
      obtain ⟨_, _, ⟨a1, a2⟩, a3, a4⟩ := hz
      unfold okv okp
      rw [decide_eq_true_eq]
      refine ⟨⟨?_, ?_⟩, ?_, ?_⟩ <;> simp only <;> split <;> omega
  · have hb : usesE l [u] = useE l u := usesE_bad (k := 0) (by simp) (fun v hv => by simp at hv) h
    unfold sumsE
    rw [if_neg (by simp [hC]), if_pos (by rw [hb]; exact h), hb]
theorem holds_one {w : World} {b o n cap k : Nat} {l : List Us} (h : HoldsU w (some ⟨b, o, none⟩) n cap l) (hk : k < n) : HoldsU w (some ⟨b, o + k * 3, none⟩) 1 (cap - k) [ua l k] := by
  obtain ⟨h1, h2, h3, h4, h5⟩ := h
  obtain ⟨b', o', e, hlt, hc⟩ := h5 (by omega)
  cases e
  refine ⟨rfl, by omega, by omega, (fun e => by cases e), fun _ => ⟨b, _, rfl, hlt, fun j x hx i v hv => ?_⟩⟩
  have hj : j = 0 := by
    have := (List.getElem?_eq_some_iff.1 hx).1
    simpa using this
  subst hj
  cases hx
  have := hc k _ (ua_get (by omega)) i v hv
  rw [Nat.zero_mul, Nat.add_zero]
  exact this

set_option maxRecDepth 100000 in
set_option maxHeartbeats 8000000 in
theorem ustarved_any (a : Option Addr) (len cap : Nat) (l : List Qu) (b : Option Addr) (ln cp : Nat) (ls : List Le) (ub : Option Addr) (n uc : Nat) (nd : List Us) (w : World) (h : HoldsQ w a len cap l) (hok : ∀ q ∈ l, q.ok) (hl : HoldsL w b ln cp ls) (hlo : ∀ x ∈ ls, x.okB) (hn : ln * 24 ≤ 140737488355328) (hu : HoldsU w ub n uc nd) (huk : ∀ u ∈ nd, u.ok) (hnn : n * 8 ≤ 140737488355328) :
    Calls Try.prog 16 #[.slice a len cap, .slice b ln cp, .slice ub n uc] w fun e w' => ∃ v, e = .returned (.tuple #[v, .int .i64 (starvE l ls nd)]) ∧ OwnN w.heap.size w' v (starvL l ls nd).length (starvL l ls nd) ∧ Below w.heap.size w w' := by
  have RD := hid (uread_any a len cap l b ln cp ls w h hok hl hlo hn)
  have SU := hid (fun W (hW : Below w.heap.size w W) vb m c us (hus : HoldsU W vb m c us) (hq : ∀ u ∈ us, I64 u.qu) => qsums_any a len cap l vb m c us W (h.below hW) hok hus hq)
  have HU := hid hu
  have HN := hid hu.1
  have ucap := hu.2.1
  have ucm := hu.2.2.1
  have UK := hid huk
  clear h hok hl hlo hu huk
  by_cases e1 : readE l ls = 0
  case neg =>
    have E := hid (show starvE l ls nd = readE l ls by unfold starvE; rw [if_neg e1])
    have LN := hid (starvL_no (l := l) (ls := ls) (nd := nd) (by rw [E.out]; exact e1))
    have t : (readE l ls != 0) = true := by simpa using e1
    have E1 := hid e1
    clear e1
    generalize readE l ls = RE at *
    go_enter Try.func16, Try.ntmps16
    go_wp2_with fail
    refine RD.out.mono ?_
    rintro e w1 ⟨v1, rfl, o1, b1⟩
    have o2 : v1 = .agg #[.map none, .map none] := by
      rcases o1 with ⟨_, h⟩ | ⟨h, _⟩
      · exact h
      · exact absurd h E1.out
    subst o2
    have B1 := hid b1
    clear o1 b1
    go_wp2_with fail
    go_ret2
    exact ⟨_, ret_u E.out, by rw [LN.out]; exact OwnE.nil _ _ _ _ _, B1.out.alloc B1.out.size _⟩
  have E := hid (show starvE l ls nd = ndE l nd nd.length by unfold starvE; rw [if_pos e1])
  have LY := hid (fun (hz : ndE l nd nd.length = 0) => (show starvL l ls nd = stT (fun id => qfT l id l.length) (fun q => useT ls q ls.length) nd nd.length from by unfold starvL; rw [if_pos (by rw [E.out]; exact hz)]))
  have LN := hid (fun (hz : ndE l nd nd.length ≠ 0) => starvL_no (l := l) (ls := ls) (nd := nd) (by rw [E.out]; exact hz))
  have hC : chkE l = 0 := by
    unfold readE at e1
    by_cases hc : chkE l = 0
    · exact hc
    · rw [if_neg hc] at e1; exact absurd e1 hc
  have ONE := hid (fun u => sumsE_one hC u)
  rw [e1] at RD
  clear e1 hC
  go_enter Try.func16, Try.ntmps16
  go_wp2_with fail
  refine RD.out.mono ?_
  rintro e w1 ⟨v1, rfl, o1, b1⟩
  have o2 : ∃ mq mu, v1 = .agg #[.map (some mq), .map (some mu)] ∧ QMp w1 mq l.length (fun id => qfT l id l.length) ∧ UM w1 mu ls.length (fun q => hasT ls q ls.length) (fun q => useT ls q ls.length) := by
    rcases o1 with ⟨h, _⟩ | ⟨_, mq, mu, h, _, _, h1, h2⟩
    · exact absurd rfl h
    · exact ⟨mq, mu, h, h1, h2⟩
  obtain ⟨mq, mu, rfl, hQ, hU⟩ := o2
  have HQM := hid hQ
  have HUM := hid hU
  have B1 := hid b1
  have B2 := hid (B1.out.alloc B1.out.size (.cells #[.map (some mq), .map (some mu)] 64))
  have h0 : (w1.alloc (.cells #[.map (some mq), .map (some mu)] 64)).cell? ⟨w1.heap.size, 0, none⟩ = some (.map (some mq)) := by simp [go_sem]
  have h1 : (w1.alloc (.cells #[.map (some mq), .map (some mu)] 64)).cell? ⟨w1.heap.size, 1, none⟩ = some (.map (some mu)) := by simp [go_sem]
  have Z := hid (And.intro h0 h1)
  have QU := hid (And.intro (HQM.out.below ((Below.refl w1.heap.size w1).alloc (Nat.le_refl _) (.cells #[.map (some mq), .map (some mu)] 64))) (HUM.out.below ((Below.refl w1.heap.size w1).alloc (Nat.le_refl _) (.cells #[.map (some mq), .map (some mu)] 64))))
  clear o1 hQ hU b1 RD HQM HUM h0 h1
  go_wp2_with fail
  generalize hw2 : (w1.alloc (.cells #[.map (some mq), .map (some mu)] 64)) = w2 at *
  clear hw2
  generalize hHB : w1.heap.size = HB at *
  clear hHB
  go_loopw [10, 26] (fun s i wr => ∃ k : Nat, k ≤ n ∧ i = .int .i64 (k : Int) ∧ Hid (ndE l nd k = 0) ∧ Hid (OwnN w2.heap.size wr s (stT (fun id => qfT l id l.length) (fun q => useT ls q ls.length) nd k).length (stT (fun id => qfT l id l.length) (fun q => useT ls q ls.length) nd k)) ∧ Hid (Below w2.heap.size w2 wr)) (fun s i _ => n - (intOf i).toNat)
  case atStart => exact ⟨0, by omega, rfl, rfl, OwnE.nil _ _ _ _ _, Below.refl _ _⟩
  case round =>
    obtain ⟨k, hk, rfl, hE, hO, hB⟩ := hrel
    by_cases hlt : k < n
    · have hlt' : k < nd.length := by rw [HN.out]; exact hlt
      obtain ⟨ub, uo, rfl, RU⟩ := HU.out.rowU (by omega)
      have BW := hid (B2.out.trans (hB.out.mono B2.out.size))
      obtain ⟨r0, r1, r2⟩ := RU k hlt
      have c0 := keepc BW.out r0
      have c1 := keepc BW.out r1
      have c2 := keepc BW.out r2
      have okq := (UK.out _ (ua_mem hlt')).1
      have NE : Hid (ndE l nd (k + 1) = if 0 < k ∧ (ua nd k).qu ≤ (ua nd (k - 1)).qu then 4 else useE l (ua nd k)) := by
        show (if ndE l nd k ≠ 0 then _ else _) = _
        rw [if_neg (by rw [hE.out]; simp)]
      have STY := hid (fun (hne : ndE l nd (k + 1) ≠ 0) => ndE_stay hne (n := nd.length) (by omega))
      have NS : Hid (stT (fun id => qfT l id l.length) (fun q => useT ls q ls.length) nd (k + 1) = if stB (fun id => qfT l id l.length) (fun q => useT ls q ls.length) (ua nd k).qu (ua nd k).uc (ua nd k).um = true then stT (fun id => qfT l id l.length) (fun q => useT ls q ls.length) nd k ++ [(ua nd k).qu] else stT (fun id => qfT l id l.length) (fun q => useT ls q ls.length) nd k) := rfl
      have hsl := stT_len (f := fun id => qfT l id l.length) (g := fun q => useT ls q ls.length) (nd := nd) k
      have SUM := hid (fun W (hW : Below w.heap.size w W) => SU.out W hW _ 1 (uc - k) [ua nd k] (holds_one (HU.out.below hW) hlt) (fun u hu => by rw [List.mem_singleton.1 hu]; exact (UK.out _ (ua_mem hlt')).1))
      rw [ONE.out] at SUM
      have ka : (0 : Int) ≤ (k : Int) := by omega
      have kb : (k : Int) < (n : Int) := by omega
      have kc : (n : Int) ≤ (uc : Int) := by omega
      have kd : (k : Int) + 1 ≤ (n : Int) := by omega
      have kw : IntKind.i64.wrap ((k : Int) + 1) = (k : Int) + 1 := by rw [IntKind.wrap_i64]; omega
      have kw0 : IntKind.i64.wrap (k : Int) = (k : Int) := by rw [IntKind.wrap_i64]; omega
      have kn : ((k : Int) + 1).toNat = k + 1 := by omega
      have ku : (k : Int) + 1 ≤ (uc : Int) := by omega
      have kcap : ¬ uc = k := by omega
      have kcap' : ¬ k = uc := by omega
      have RUH := hid RU
      clear r0 r1 r2 RU
      generalize hx : ua nd k = x at *
      have HX := hid hx
      clear hx
      obtain ⟨u1, u2, u3⟩ := x
      simp only at c0 c1 c2 okq NS
      have BA := hid (hB.out.alloc hB.out.size (.cells #[.int .i64 u1, .int .i64 u2, .int .i64 u3] 45))
      have y0 : (wr.alloc (.cells #[.int .i64 u1, .int .i64 u2, .int .i64 u3] 45)).cell? ⟨wr.heap.size, 0, none⟩ = some (.int .i64 u1) := by simp [go_sem]
      have y1 : (wr.alloc (.cells #[.int .i64 u1, .int .i64 u2, .int .i64 u3] 45)).cell? ⟨wr.heap.size, 1, none⟩ = some (.int .i64 u2) := by simp [go_sem]
      have y2 : (wr.alloc (.cells #[.int .i64 u1, .int .i64 u2, .int .i64 u3] 45)).cell? ⟨wr.heap.size, 2, none⟩ = some (.int .i64 u3) := by simp [go_sem]
      have OA := hid (hO.out.below ((Below.refl wr.heap.size wr).alloc (Nat.le_refl _) (.cells #[.int .i64 u1, .int .i64 u2, .int .i64 u3] 45)))
      have PR := hid (fun (j : Nat) (hj : j < n) => keepc (B2.out.trans (BA.out.mono B2.out.size)) (RUH.out j hj).1)
      go_upto_region 8 with fail
      clear hO RUH BW
      clear c0 c1 c2
      generalize (wr.alloc (.cells #[.int .i64 u1, .int .i64 u2, .int .i64 u3] 45)) = w6 at *
      generalize wr.heap.size = QK at *
      have TW := hid (fun W (hW : Below w6.heap.size w6 W) => BA.out.trans (hW.mono BA.out.size))
      have BX := hid (Below.drew (Below.refl w6.heap.size w6))
      have x0 := drewc y0
      have x1 := drewc y1
      have x2 := drewc y2
      have FRM : Hid (¬ (0 < k ∧ u1 ≤ (ua nd (k - 1)).qu) → ndE l nd (k + 1) = useE l ⟨u1, u2, u3⟩) := fun h => by rw [NE.out, if_neg h]
      have OUT : Hid (0 < k ∧ u1 ≤ (ua nd (k - 1)).qu → ndE l nd (k + 1) = 4) := fun h => by rw [NE.out, if_pos h]
      clear NE
      by_cases h0 : k = 0
      · have FR := hid (FRM.out (by omega))
        have t0 : decide ((0 : Int) < (k : Int)) = false := by simp; omega
        have H0 := hid h0
        clear FRM OUT PR h0 t0
        refine wp_region_held_drew (S := (fun w' => True)) (by kernel_rfl) trivial (fun hHeld => ?_)
        refine wpAnyH_take (i := 0) (v := .int .i64 (k : Int)) rfl (by kernel_rfl) (by kernel_rfl) (by kernel_rfl) (fun _ _ _ h => h) (Or.inl ⟨by rfl, ?_⟩) (by assumption) ?_
        · (intro w hSw; (try dsimp only at hSw); go_simp <;> (try exact H0.out))
        (try simp only [Act.put, List.getElem_toArray, List.getElem_cons_succ, List.getElem_cons_zero, List.setIfInBounds_toArray, List.set_cons_zero, List.set_cons_succ])
        refine wpAnyH_take (i := 1) (v := .bool false) rfl (by kernel_rfl) (by kernel_rfl) (by kernel_rfl) (fun _ _ _ h => h) (Or.inl ⟨by rfl, ?_⟩) (by assumption) ?_
        · (intro w hSw; (try dsimp only at hSw); go_simp <;> (try exact H0.out))
        (try simp only [Act.put, List.getElem_toArray, List.getElem_cons_succ, List.getElem_cons_zero, List.setIfInBounds_toArray, List.set_cons_zero, List.set_cons_succ])
        refine wpAnyH_take (i := 2) (v := .bool false) rfl (by kernel_rfl) (by kernel_rfl) (by kernel_rfl) (fun _ _ _ h => h) (Or.inl ⟨by rfl, ?_⟩) (by assumption) ?_
        · (intro w hSw; (try dsimp only at hSw); go_simp <;> (try exact H0.out))
        (try simp only [Act.put, List.getElem_toArray, List.getElem_cons_succ, List.getElem_cons_zero, List.setIfInBounds_toArray, List.set_cons_zero, List.set_cons_succ])
        refine wpAnyH_take (i := 3) (v := undef) rfl (by kernel_rfl) (by kernel_rfl) (by kernel_rfl) (fun _ _ _ h => h) (Or.inr ⟨by rfl, rfl⟩) (by assumption) ?_
        (try simp only [Act.put, List.getElem_toArray, List.getElem_cons_succ, List.getElem_cons_zero, List.setIfInBounds_toArray, List.set_cons_zero, List.set_cons_succ])
        refine wpAnyH_take (i := 4) (v := undef) rfl (by kernel_rfl) (by kernel_rfl) (by kernel_rfl) (fun _ _ _ h => h) (Or.inr ⟨by rfl, rfl⟩) (by assumption) ?_
        (try simp only [Act.put, List.getElem_toArray, List.getElem_cons_succ, List.getElem_cons_zero, List.setIfInBounds_toArray, List.set_cons_zero, List.set_cons_succ])
        refine wpAnyH_take (i := 5) (v := undef) rfl (by kernel_rfl) (by kernel_rfl) (by kernel_rfl) (fun _ _ _ h => h) (Or.inr ⟨by rfl, rfl⟩) (by assumption) ?_
        (try simp only [Act.put, List.getElem_toArray, List.getElem_cons_succ, List.getElem_cons_zero, List.setIfInBounds_toArray, List.set_cons_zero, List.set_cons_succ])
        refine wpAnyH_take (i := 6) (v := undef) rfl (by kernel_rfl) (by kernel_rfl) (by kernel_rfl) (fun _ _ _ h => h) (Or.inr ⟨by rfl, rfl⟩) (by assumption) ?_
        (try simp only [Act.put, List.getElem_toArray, List.getElem_cons_succ, List.getElem_cons_zero, List.setIfInBounds_toArray, List.set_cons_zero, List.set_cons_succ])
        refine wpAnyH_take (i := 7) (v := undef) rfl (by kernel_rfl) (by kernel_rfl) (by kernel_rfl) (fun _ _ _ h => h) (Or.inr ⟨by rfl, rfl⟩) (by assumption) ?_
        (try simp only [Act.put, List.getElem_toArray, List.getElem_cons_succ, List.getElem_cons_zero, List.setIfInBounds_toArray, List.set_cons_zero, List.set_cons_succ])
        refine wpAnyH_take (i := 8) (v := undef) rfl (by kernel_rfl) (by kernel_rfl) (by kernel_rfl) (fun _ _ _ h => h) (Or.inr ⟨by rfl, rfl⟩) (by assumption) ?_
        (try simp only [Act.put, List.getElem_toArray, List.getElem_cons_succ, List.getElem_cons_zero, List.setIfInBounds_toArray, List.set_cons_zero, List.set_cons_succ])
        refine wpAnyH_take (i := 9) (v := undef) rfl (by kernel_rfl) (by kernel_rfl) (by kernel_rfl) (fun _ _ _ h => h) (Or.inr ⟨by rfl, rfl⟩) (by assumption) ?_
        (try simp only [Act.put, List.getElem_toArray, List.getElem_cons_succ, List.getElem_cons_zero, List.setIfInBounds_toArray, List.set_cons_zero, List.set_cons_succ])
        refine wpAnyH_take (i := 10) (v := undef) rfl (by kernel_rfl) (by kernel_rfl) (by kernel_rfl) (fun _ _ _ h => h) (Or.inr ⟨by rfl, rfl⟩) (by assumption) ?_
        (try simp only [Act.put, List.getElem_toArray, List.getElem_cons_succ, List.getElem_cons_zero, List.setIfInBounds_toArray, List.set_cons_zero, List.set_cons_succ])
        refine wpAnyH_take (i := 11) (v := undef) rfl (by kernel_rfl) (by kernel_rfl) (by kernel_rfl) (fun _ _ _ h => h) (Or.inr ⟨by rfl, rfl⟩) (by assumption) ?_
        (try simp only [Act.put, List.getElem_toArray, List.getElem_cons_succ, List.getElem_cons_zero, List.setIfInBounds_toArray, List.set_cons_zero, List.set_cons_succ])
        refine wpAnyH_take (i := 12) (v := .bool false) rfl (by kernel_rfl) (by kernel_rfl) (by kernel_rfl) (fun _ _ _ h => h) (Or.inl ⟨by rfl, ?_⟩) (by assumption) ?_
        · (intro w hSw; (try dsimp only at hSw); go_simp <;> (try exact H0.out))
        (try simp only [Act.put, List.getElem_toArray, List.getElem_cons_succ, List.getElem_cons_zero, List.setIfInBounds_toArray, List.set_cons_zero, List.set_cons_succ])
        refine wpAnyH_done (by kernel_rfl) ?_ _
        clear hHeld 
        rw [FR.out] at STY
        have BW6 := hid (B2.out.trans ((TW.out _ BX.out).mono B2.out.size))
        go_wp2_with fail
        with_reducible refine (SUM.out _ BW6.out).mono ?_
        rintro e w7 ⟨v7, rfl, o7, b7⟩
        clear o7
        have B7 := hid (BX.out.trans (b7.mono BX.out.size))
        replace x0 := keepc b7 x0
        replace x1 := keepc b7 x1
        replace x2 := keepc b7 x2
        clear b7 SUM BW6
        by_cases hz : useE l ⟨u1, u2, u3⟩ = 0
        · rw [hz]
          have FZ : Hid (ndE l nd (k + 1) = 0) := FR.out.trans hz
          clear STY FR hz
          have z0 := keepc (TW.out _ B7.out) Z.out.1
          have z1 := keepc (TW.out _ B7.out) Z.out.2
          have ST := hid (ustarves_any u1 u2 u3 w7 (QU.out.1.below (TW.out _ B7.out)) (QU.out.2.below (TW.out _ B7.out)) okq)
          generalize stB (fun id => qfT l id l.length) (fun q => useT ls q ls.length) u1 u2 u3 = SB at *
          go_wp2_with fail
          with_reducible refine ST.out.mono ?_
          rintro e w8 ⟨rfl, b8⟩
          have B8 := hid (B7.out.trans (b8.mono B7.out.size))
          replace x0 := keepc b8 x0
          have O8 := hid (OA.out.below B8.out)
          clear ST b8 x1 x2 z0 z1 OA
          cases SB with
          | false =>
            have NS2 : Hid (stT (fun id => qfT l id l.length) (fun q => useT ls q ls.length) nd (k + 1) = stT (fun id => qfT l id l.length) (fun q => useT ls q ls.length) nd k) := by unfold Hid; rw [NS.out]; simp
            clear NS
            generalize stT (fun id => qfT l id l.length) (fun q => useT ls q ls.length) nd k = ST at *
            go_wp2_with fail
            refine ⟨⟨k + 1, by omega, by go_num, FZ, by unfold Hid; rw [NS2.out]; exact O8.out, TW.out _ B8.out⟩, ?_⟩
            simp [intOf]; omega
          | true =>
            have NS2 : Hid (stT (fun id => qfT l id l.length) (fun q => useT ls q ls.length) nd (k + 1) = stT (fun id => qfT l id l.length) (fun q => useT ls q ls.length) nd k ++ [u1]) := by unfold Hid; rw [NS.out]; simp
            clear NS
            generalize stT (fun id => qfT l id l.length) (fun q => useT ls q ls.length) nd k = ST at *
            generalize hsn : ST.length = sn at *
            have HSN := hid hsn
            clear hsn
            have BW8 := hid (TW.out _ B8.out)
            go_wp2_with (at_builtin; refine push_ownE 36 3 _ 8 encN_len encN_one Try.underlying36 infoN rfl (by decide) w8 u1 rfl (.tmp 60) (.tmp 63) rfl w2.heap.size sn u10 _ _ rfl rfl O8.out BW8.out.size (by simp [Act.eval]) (by omega) (by omega) ?_)
            intro v9 w9 h1 h2 _
            have O9 := hid h1
            have B9 := hid (BW8.out.trans h2)
            clear h1 h2
            go_wp2_with fail
            refine ⟨⟨k + 1, by omega, by go_num, FZ, by unfold Hid; rw [NS2.out, List.length_append, HSN.out]; exact O9.out, B9⟩, ?_⟩
            simp [intOf]; omega
        · have EF := hid (E.out.trans (STY.out hz))
          have LF := hid (LN.out (by rw [STY.out hz]; exact hz))
          have t : (useE l ⟨u1, u2, u3⟩ != 0) = true := by simpa using hz
          clear STY FR hz OA x0 x1 x2
          generalize useE l ⟨u1, u2, u3⟩ = UE at *
          have BE := hid (B2.out.trans ((TW.out _ B7.out).mono B2.out.size))
          go_wp2_with fail
          go_ret2
          exact ⟨_, ret_u EF.out, by rw [LF.out]; exact OwnE.nil _ _ _ _ _, BE.out⟩
      · have t0 : decide ((0 : Int) < (k : Int)) = true := by simp; omega
        obtain ⟨j, hj⟩ : ∃ j, j = k - 1 := ⟨_, rfl⟩
        have hkj : (k : Int) - 1 = (j : Int) := by omega
        have kj0 : (0 : Int) ≤ (j : Int) := by omega
        have jw : IntKind.i64.wrap (j : Int) = (j : Int) := by rw [IntKind.wrap_i64]; omega
        have kjn : (j : Int) < (n : Int) := by omega
        have p0 := PR.out j (by omega)
        rw [← hj] at FRM OUT
        have h0p : 0 < k := by omega
        clear h0 hj
        generalize (ua nd j).qu = PV at *
        by_cases hle : u1 ≤ PV
        · have tl : decide (u1 ≤ PV) = true := by simpa using hle
          have F4 := OUT.out ⟨h0p, hle⟩
          rw [F4] at STY
          have EF := hid (E.out.trans (STY.out (by decide)))
          have LF := hid (LN.out (by rw [STY.out (by decide)]; decide))
          clear FRM OUT F4 STY PR
          have rg_y0 := drewc y0
          have rg_p0 := drewc p0
          refine wp_region_held_drew (S := (fun w' => w'.cell? ⟨QK, 0, none⟩ = some (.int .i64 u1) ∧ w'.cell? ⟨ub, uo + j * 3, none⟩ = some (.int .i64 PV))) (by kernel_rfl) ⟨rg_y0, rg_p0⟩ (fun hHeld => ?_)
          refine wpAnyH_take (i := 0) (v := .int .i64 (k : Int)) rfl (by kernel_rfl) (by kernel_rfl) (by kernel_rfl) (fun _ _ _ h => h) (Or.inl ⟨by rfl, ?_⟩) (by assumption) ?_
          · (intro w hSw; (try dsimp only at hSw); go_simp)
          (try simp only [Act.put, List.getElem_toArray, List.getElem_cons_succ, List.getElem_cons_zero, List.setIfInBounds_toArray, List.set_cons_zero, List.set_cons_succ])
          refine wpAnyH_take (i := 1) (v := .bool true) rfl (by kernel_rfl) (by kernel_rfl) (by kernel_rfl) (fun _ _ _ h => h) (Or.inl ⟨by rfl, ?_⟩) (by assumption) ?_
          · (intro w hSw; (try dsimp only at hSw); go_simp)
          (try simp only [Act.put, List.getElem_toArray, List.getElem_cons_succ, List.getElem_cons_zero, List.setIfInBounds_toArray, List.set_cons_zero, List.set_cons_succ])
          refine wpAnyH_take (i := 2) (v := .bool true) rfl (by kernel_rfl) (by kernel_rfl) (by kernel_rfl) (fun _ _ _ h => h) (Or.inl ⟨by rfl, ?_⟩) (by assumption) ?_
          · (intro w hSw; (try dsimp only at hSw); go_simp)
          (try simp only [Act.put, List.getElem_toArray, List.getElem_cons_succ, List.getElem_cons_zero, List.setIfInBounds_toArray, List.set_cons_zero, List.set_cons_succ])
          refine wpAnyH_take (i := 3) (v := .pointer (some ⟨QK, 0, none⟩)) rfl (by kernel_rfl) (by kernel_rfl) (by kernel_rfl) (fun _ _ _ h => h) (Or.inl ⟨by rfl, ?_⟩) (by assumption) ?_
          · (intro w hSw; (try dsimp only at hSw); go_simp)
          (try simp only [Act.put, List.getElem_toArray, List.getElem_cons_succ, List.getElem_cons_zero, List.setIfInBounds_toArray, List.set_cons_zero, List.set_cons_succ])
          refine wpAnyH_take (i := 4) (v := .int .i64 u1) rfl (by kernel_rfl) (by kernel_rfl) (by kernel_rfl) (fun _ _ _ h => h) (Or.inl ⟨by rfl, ?_⟩) (by assumption) ?_
          · (intro w hSw; (try dsimp only at hSw); go_simp)
          (try simp only [Act.put, List.getElem_toArray, List.getElem_cons_succ, List.getElem_cons_zero, List.setIfInBounds_toArray, List.set_cons_zero, List.set_cons_succ])
          refine wpAnyH_take (i := 5) (v := .slice (some ⟨ub, uo, none⟩) n uc) rfl (by kernel_rfl) (by kernel_rfl) (by kernel_rfl) (fun _ _ _ h => h) (Or.inl ⟨by rfl, ?_⟩) (by assumption) ?_
          · (intro w hSw; (try dsimp only at hSw); go_simp)
          (try simp only [Act.put, List.getElem_toArray, List.getElem_cons_succ, List.getElem_cons_zero, List.setIfInBounds_toArray, List.set_cons_zero, List.set_cons_succ])
          refine wpAnyH_take (i := 6) (v := .int .i64 (k : Int)) rfl (by kernel_rfl) (by kernel_rfl) (by kernel_rfl) (fun _ _ _ h => h) (Or.inl ⟨by rfl, ?_⟩) (by assumption) ?_
          · (intro w hSw; (try dsimp only at hSw); go_simp)
          (try simp only [Act.put, List.getElem_toArray, List.getElem_cons_succ, List.getElem_cons_zero, List.setIfInBounds_toArray, List.set_cons_zero, List.set_cons_succ])
          refine wpAnyH_take (i := 7) (v := .int .i64 (j : Int)) rfl (by kernel_rfl) (by kernel_rfl) (by kernel_rfl) (fun _ _ _ h => h) (Or.inl ⟨by rfl, ?_⟩) (by assumption) ?_
          · (intro w hSw; (try dsimp only at hSw); go_simp)
          (try simp only [Act.put, List.getElem_toArray, List.getElem_cons_succ, List.getElem_cons_zero, List.setIfInBounds_toArray, List.set_cons_zero, List.set_cons_succ])
          refine wpAnyH_take (i := 8) (v := .pointer (some ⟨ub, uo + j * 3, none⟩)) rfl (by kernel_rfl) (by kernel_rfl) (by kernel_rfl) (fun _ _ _ h => h) (Or.inl ⟨by rfl, ?_⟩) (by assumption) ?_
          · (intro w hSw; (try dsimp only at hSw); go_simp)
          (try simp only [Act.put, List.getElem_toArray, List.getElem_cons_succ, List.getElem_cons_zero, List.setIfInBounds_toArray, List.set_cons_zero, List.set_cons_succ])
          refine wpAnyH_take (i := 9) (v := .pointer (some ⟨ub, uo + j * 3, none⟩)) rfl (by kernel_rfl) (by kernel_rfl) (by kernel_rfl) (fun _ _ _ h => h) (Or.inl ⟨by rfl, ?_⟩) (by assumption) ?_
          · (intro w hSw; (try dsimp only at hSw); go_simp)
          (try simp only [Act.put, List.getElem_toArray, List.getElem_cons_succ, List.getElem_cons_zero, List.setIfInBounds_toArray, List.set_cons_zero, List.set_cons_succ])
          refine wpAnyH_take (i := 10) (v := .int .i64 PV) rfl (by kernel_rfl) (by kernel_rfl) (by kernel_rfl) (fun _ _ _ h => h) (Or.inl ⟨by rfl, ?_⟩) (by assumption) ?_
          · (intro w hSw; (try dsimp only at hSw); go_simp)
          (try simp only [Act.put, List.getElem_toArray, List.getElem_cons_succ, List.getElem_cons_zero, List.setIfInBounds_toArray, List.set_cons_zero, List.set_cons_succ])
          refine wpAnyH_take (i := 11) (v := .bool true) rfl (by kernel_rfl) (by kernel_rfl) (by kernel_rfl) (fun _ _ _ h => h) (Or.inl ⟨by rfl, ?_⟩) (by assumption) ?_
          · (intro w hSw; (try dsimp only at hSw); go_simp)
          (try simp only [Act.put, List.getElem_toArray, List.getElem_cons_succ, List.getElem_cons_zero, List.setIfInBounds_toArray, List.set_cons_zero, List.set_cons_succ])
          refine wpAnyH_take (i := 12) (v := .bool true) rfl (by kernel_rfl) (by kernel_rfl) (by kernel_rfl) (fun _ _ _ h => h) (Or.inl ⟨by rfl, ?_⟩) (by assumption) ?_
          · (intro w hSw; (try dsimp only at hSw); go_simp)
          (try simp only [Act.put, List.getElem_toArray, List.getElem_cons_succ, List.getElem_cons_zero, List.setIfInBounds_toArray, List.set_cons_zero, List.set_cons_succ])
          refine wpAnyH_done (by kernel_rfl) ?_ _
          clear hHeld rg_y0 rg_p0
          have BE := hid (B2.out.trans ((TW.out _ BX.out).mono B2.out.size))
          go_wp2_with fail
          go_ret2
          exact ⟨_, ret_u EF.out, by rw [LF.out]; exact OwnE.nil _ _ _ _ _, BE.out⟩
        · have tl : decide (u1 ≤ PV) = false := by simpa using hle
          have FR := hid (FRM.out (fun h => hle h.2))
          clear FRM OUT PR
          have rg_y0 := drewc y0
          have rg_p0 := drewc p0
          refine wp_region_held_drew (S := (fun w' => w'.cell? ⟨QK, 0, none⟩ = some (.int .i64 u1) ∧ w'.cell? ⟨ub, uo + j * 3, none⟩ = some (.int .i64 PV))) (by kernel_rfl) ⟨rg_y0, rg_p0⟩ (fun hHeld => ?_)
          refine wpAnyH_take (i := 0) (v := .int .i64 (k : Int)) rfl (by kernel_rfl) (by kernel_rfl) (by kernel_rfl) (fun _ _ _ h => h) (Or.inl ⟨by rfl, ?_⟩) (by assumption) ?_
          · (intro w hSw; (try dsimp only at hSw); go_simp)
          (try simp only [Act.put, List.getElem_toArray, List.getElem_cons_succ, List.getElem_cons_zero, List.setIfInBounds_toArray, List.set_cons_zero, List.set_cons_succ])
          refine wpAnyH_take (i := 1) (v := .bool true) rfl (by kernel_rfl) (by kernel_rfl) (by kernel_rfl) (fun _ _ _ h => h) (Or.inl ⟨by rfl, ?_⟩) (by assumption) ?_
          · (intro w hSw; (try dsimp only at hSw); go_simp)
          (try simp only [Act.put, List.getElem_toArray, List.getElem_cons_succ, List.getElem_cons_zero, List.setIfInBounds_toArray, List.set_cons_zero, List.set_cons_succ])
          refine wpAnyH_take (i := 2) (v := .bool true) rfl (by kernel_rfl) (by kernel_rfl) (by kernel_rfl) (fun _ _ _ h => h) (Or.inl ⟨by rfl, ?_⟩) (by assumption) ?_
          · (intro w hSw; (try dsimp only at hSw); go_simp)
          (try simp only [Act.put, List.getElem_toArray, List.getElem_cons_succ, List.getElem_cons_zero, List.setIfInBounds_toArray, List.set_cons_zero, List.set_cons_succ])
          refine wpAnyH_take (i := 3) (v := .pointer (some ⟨QK, 0, none⟩)) rfl (by kernel_rfl) (by kernel_rfl) (by kernel_rfl) (fun _ _ _ h => h) (Or.inl ⟨by rfl, ?_⟩) (by assumption) ?_
          · (intro w hSw; (try dsimp only at hSw); go_simp)
          (try simp only [Act.put, List.getElem_toArray, List.getElem_cons_succ, List.getElem_cons_zero, List.setIfInBounds_toArray, List.set_cons_zero, List.set_cons_succ])
          refine wpAnyH_take (i := 4) (v := .int .i64 u1) rfl (by kernel_rfl) (by kernel_rfl) (by kernel_rfl) (fun _ _ _ h => h) (Or.inl ⟨by rfl, ?_⟩) (by assumption) ?_
          · (intro w hSw; (try dsimp only at hSw); go_simp)
          (try simp only [Act.put, List.getElem_toArray, List.getElem_cons_succ, List.getElem_cons_zero, List.setIfInBounds_toArray, List.set_cons_zero, List.set_cons_succ])
          refine wpAnyH_take (i := 5) (v := .slice (some ⟨ub, uo, none⟩) n uc) rfl (by kernel_rfl) (by kernel_rfl) (by kernel_rfl) (fun _ _ _ h => h) (Or.inl ⟨by rfl, ?_⟩) (by assumption) ?_
          · (intro w hSw; (try dsimp only at hSw); go_simp)
          (try simp only [Act.put, List.getElem_toArray, List.getElem_cons_succ, List.getElem_cons_zero, List.setIfInBounds_toArray, List.set_cons_zero, List.set_cons_succ])
          refine wpAnyH_take (i := 6) (v := .int .i64 (k : Int)) rfl (by kernel_rfl) (by kernel_rfl) (by kernel_rfl) (fun _ _ _ h => h) (Or.inl ⟨by rfl, ?_⟩) (by assumption) ?_
          · (intro w hSw; (try dsimp only at hSw); go_simp)
          (try simp only [Act.put, List.getElem_toArray, List.getElem_cons_succ, List.getElem_cons_zero, List.setIfInBounds_toArray, List.set_cons_zero, List.set_cons_succ])
          refine wpAnyH_take (i := 7) (v := .int .i64 (j : Int)) rfl (by kernel_rfl) (by kernel_rfl) (by kernel_rfl) (fun _ _ _ h => h) (Or.inl ⟨by rfl, ?_⟩) (by assumption) ?_
          · (intro w hSw; (try dsimp only at hSw); go_simp)
          (try simp only [Act.put, List.getElem_toArray, List.getElem_cons_succ, List.getElem_cons_zero, List.setIfInBounds_toArray, List.set_cons_zero, List.set_cons_succ])
          refine wpAnyH_take (i := 8) (v := .pointer (some ⟨ub, uo + j * 3, none⟩)) rfl (by kernel_rfl) (by kernel_rfl) (by kernel_rfl) (fun _ _ _ h => h) (Or.inl ⟨by rfl, ?_⟩) (by assumption) ?_
          · (intro w hSw; (try dsimp only at hSw); go_simp)
          (try simp only [Act.put, List.getElem_toArray, List.getElem_cons_succ, List.getElem_cons_zero, List.setIfInBounds_toArray, List.set_cons_zero, List.set_cons_succ])
          refine wpAnyH_take (i := 9) (v := .pointer (some ⟨ub, uo + j * 3, none⟩)) rfl (by kernel_rfl) (by kernel_rfl) (by kernel_rfl) (fun _ _ _ h => h) (Or.inl ⟨by rfl, ?_⟩) (by assumption) ?_
          · (intro w hSw; (try dsimp only at hSw); go_simp)
          (try simp only [Act.put, List.getElem_toArray, List.getElem_cons_succ, List.getElem_cons_zero, List.setIfInBounds_toArray, List.set_cons_zero, List.set_cons_succ])
          refine wpAnyH_take (i := 10) (v := .int .i64 PV) rfl (by kernel_rfl) (by kernel_rfl) (by kernel_rfl) (fun _ _ _ h => h) (Or.inl ⟨by rfl, ?_⟩) (by assumption) ?_
          · (intro w hSw; (try dsimp only at hSw); go_simp)
          (try simp only [Act.put, List.getElem_toArray, List.getElem_cons_succ, List.getElem_cons_zero, List.setIfInBounds_toArray, List.set_cons_zero, List.set_cons_succ])
          refine wpAnyH_take (i := 11) (v := .bool false) rfl (by kernel_rfl) (by kernel_rfl) (by kernel_rfl) (fun _ _ _ h => h) (Or.inl ⟨by rfl, ?_⟩) (by assumption) ?_
          · (intro w hSw; (try dsimp only at hSw); go_simp)
          (try simp only [Act.put, List.getElem_toArray, List.getElem_cons_succ, List.getElem_cons_zero, List.setIfInBounds_toArray, List.set_cons_zero, List.set_cons_succ])
          refine wpAnyH_take (i := 12) (v := .bool false) rfl (by kernel_rfl) (by kernel_rfl) (by kernel_rfl) (fun _ _ _ h => h) (Or.inl ⟨by rfl, ?_⟩) (by assumption) ?_
          · (intro w hSw; (try dsimp only at hSw); go_simp)
          (try simp only [Act.put, List.getElem_toArray, List.getElem_cons_succ, List.getElem_cons_zero, List.setIfInBounds_toArray, List.set_cons_zero, List.set_cons_succ])
          refine wpAnyH_done (by kernel_rfl) ?_ _
          clear hHeld rg_y0 rg_p0
          rw [FR.out] at STY
          have BW6 := hid (B2.out.trans ((TW.out _ BX.out).mono B2.out.size))
          go_wp2_with fail
          with_reducible refine (SUM.out _ BW6.out).mono ?_
          rintro e w7 ⟨v7, rfl, o7, b7⟩
          clear o7
          have B7 := hid (BX.out.trans (b7.mono BX.out.size))
          replace x0 := keepc b7 x0
          replace x1 := keepc b7 x1
          replace x2 := keepc b7 x2
          clear b7 SUM BW6
          by_cases hz : useE l ⟨u1, u2, u3⟩ = 0
          · rw [hz]
            have FZ : Hid (ndE l nd (k + 1) = 0) := FR.out.trans hz
            clear STY FR hz
            have z0 := keepc (TW.out _ B7.out) Z.out.1
            have z1 := keepc (TW.out _ B7.out) Z.out.2
            have ST := hid (ustarves_any u1 u2 u3 w7 (QU.out.1.below (TW.out _ B7.out)) (QU.out.2.below (TW.out _ B7.out)) okq)
            generalize stB (fun id => qfT l id l.length) (fun q => useT ls q ls.length) u1 u2 u3 = SB at *
            go_wp2_with fail
            with_reducible refine ST.out.mono ?_
            rintro e w8 ⟨rfl, b8⟩
            have B8 := hid (B7.out.trans (b8.mono B7.out.size))
            replace x0 := keepc b8 x0
            have O8 := hid (OA.out.below B8.out)
            clear ST b8 x1 x2 z0 z1 OA
            cases SB with
            | false =>
              have NS2 : Hid (stT (fun id => qfT l id l.length) (fun q => useT ls q ls.length) nd (k + 1) = stT (fun id => qfT l id l.length) (fun q => useT ls q ls.length) nd k) := by unfold Hid; rw [NS.out]; simp
              clear NS
              generalize stT (fun id => qfT l id l.length) (fun q => useT ls q ls.length) nd k = ST at *
              go_wp2_with fail
              refine ⟨⟨k + 1, by omega, by go_num, FZ, by unfold Hid; rw [NS2.out]; exact O8.out, TW.out _ B8.out⟩, ?_⟩
              simp [intOf]; omega
            | true =>
              have NS2 : Hid (stT (fun id => qfT l id l.length) (fun q => useT ls q ls.length) nd (k + 1) = stT (fun id => qfT l id l.length) (fun q => useT ls q ls.length) nd k ++ [u1]) := by unfold Hid; rw [NS.out]; simp
              clear NS
              generalize stT (fun id => qfT l id l.length) (fun q => useT ls q ls.length) nd k = ST at *
              generalize hsn : ST.length = sn at *
              have HSN := hid hsn
              clear hsn
              have BW8 := hid (TW.out _ B8.out)
              go_wp2_with (at_builtin; refine push_ownE 36 3 _ 8 encN_len encN_one Try.underlying36 infoN rfl (by decide) w8 u1 rfl (.tmp 60) (.tmp 63) rfl w2.heap.size sn u10 _ _ rfl rfl O8.out BW8.out.size (by simp [Act.eval]) (by omega) (by omega) ?_)
              intro v9 w9 h1 h2 _
              have O9 := hid h1
              have B9 := hid (BW8.out.trans h2)
              clear h1 h2
              go_wp2_with fail
              refine ⟨⟨k + 1, by omega, by go_num, FZ, by unfold Hid; rw [NS2.out, List.length_append, HSN.out]; exact O9.out, B9⟩, ?_⟩
              simp [intOf]; omega
          · have EF := hid (E.out.trans (STY.out hz))
            have LF := hid (LN.out (by rw [STY.out hz]; exact hz))
            have t : (useE l ⟨u1, u2, u3⟩ != 0) = true := by simpa using hz
            clear STY FR hz OA x0 x1 x2
            generalize useE l ⟨u1, u2, u3⟩ = UE at *
            have BE := hid (B2.out.trans ((TW.out _ B7.out).mono B2.out.size))
            go_wp2_with fail
            go_ret2
            exact ⟨_, ret_u EF.out, by rw [LF.out]; exact OwnE.nil _ _ _ _ _, BE.out⟩
    · obtain rfl : n = k := by omega
      have e0 : nd.length = n := HN.out
      have EF : Hid (starvE l ls nd = 0) := by unfold Hid; rw [E.out, e0]; exact hE.out
      have LF : Hid (starvL l ls nd = stT (fun id => qfT l id l.length) (fun q => useT ls q ls.length) nd n) := by
        have := LY.out (by rw [e0]; exact hE.out)
        rw [e0] at this
        exact this
      have BE := hid (B2.out.trans (hB.out.mono B2.out.size))
      generalize stT (fun id => qfT l id l.length) (fun q => useT ls q ls.length) nd n = ST at *
      go_wp2_with fail
      go_ret2
      exact ⟨_, ret_u EF.out, by rw [LF.out]; exact hO.out.weaken B2.out.size, BE.out⟩
end Go.Proofs.Ytdbkjcnanffibaa

namespace Go.Proofs.Ytdbkjcnanffibaa
open Go.RowKit Go.Deep Go.Maps Go.Shelf
set_option linter.unusedVariables false
set_option linter.unusedSimpArgs false

/-- A row of uses. -/
def RwU (w : World) (g n : Nat) (f : Nat → Us) : Prop := g < w.heap.size ∧ ∀ j, j < n → w.cell? ⟨g, j * 3, none⟩ = some (.int .i64 (f j).qu) ∧ w.cell? ⟨g, j * 3 + 1, none⟩ = some (.int .i64 (f j).uc) ∧ w.cell? ⟨g, j * 3 + 2, none⟩ = some (.int .i64 (f j).um) ∧ w.frozen? ⟨g, j * 3 + 1, none⟩ = false
theorem RwU.below {w w' : World} {g n : Nat} {f : Nat → Us} (h : RwU w g n f) (hb : Below w.heap.size w w') : RwU w' g n f := ⟨Nat.lt_of_lt_of_le h.1 hb.size, fun j hj => by
  obtain ⟨h1, h2, h3, h4⟩ := h.2 j hj
  exact ⟨keepc hb h1, keepc hb h2, keepc hb h3, keepf hb h2 h4⟩⟩
theorem RwU.drew {w : World} {g n : Nat} {f : Nat → Us} (h : RwU w g n f) : RwU w.drew g n f := h.below (Below.drew (Below.refl _ _))
theorem RwU.set {w : World} {g n : Nat} {f f' : Nat → Us} (h : RwU w g n f) {x : Nat} {c : Int} (hx : x < n) (hg : ∀ j, j < n → f' j = if j = x then ⟨(f x).qu, c, (f x).um⟩ else f j) : RwU (w.setCell ⟨g, x * 3 + 1, none⟩ (.int .i64 c)) g n f' := ⟨Nat.lt_of_lt_of_le h.1 ((Below.refl 0 w).setCell (Nat.zero_le _) _).size, fun j hj => by
  obtain ⟨h1, h2, h3, h4⟩ := h.2 j hj
  rw [hg j hj]
  by_cases e : j = x
  · subst e
    rw [if_pos rfl]
    refine ⟨?_, ?_, ?_, ?_⟩
    · rw [World.cell?_setCell_other _ _ _ _ (by simp)]; exact h1
    · exact World.cell?_setCell_same' _ _ _ (by rw [h2]; rfl)
    · rw [World.cell?_setCell_other _ _ _ _ (by simp)]; exact h3
    · rw [World.frozen?_setCell]; exact h4
  · rw [if_neg e]
    refine ⟨?_, ?_, ?_, ?_⟩
    · rw [World.cell?_setCell_other _ _ _ _ (by simp <;> omega)]; exact h1
    · rw [World.cell?_setCell_other _ _ _ _ (by simp <;> omega)]; exact h2
    · rw [World.cell?_setCell_other _ _ _ _ (by simp <;> omega)]; exact h3
    · rw [World.frozen?_setCell]; exact h4⟩
theorem RwU.holds {w : World} {g cap : Nat} {l : List Us} (h : RwU w g l.length (ua l)) (hc : l.length ≤ cap) (hm : cap ≤ 9223372036854775807) : HoldsU w (some ⟨g, 0, none⟩) l.length cap l :=
  ⟨rfl, hc, hm, (fun e => by cases e), fun _ => ⟨g, 0, rfl, h.1, fun j x hx i v hv => by
    have hj : j < l.length := (List.getElem?_eq_some_iff.1 hx).1
    have e : ua l j = x := by unfold ua; rw [hx]; rfl
    obtain ⟨h1, h2, h3, _⟩ := h.2 j hj
    rw [e] at h1 h2 h3
    rw [Nat.zero_add]
    match i, hv with
    | 0, hv => cases hv; exact h1
    | 1, hv => cases hv; exact h2
    | 2, hv => cases hv; exact h3⟩⟩
theorem own_rwU {base n : Nat} {w : World} {v : Value} {l : List Us} (h : OwnE 45 3 Us.cs base w v n l) (hp : 0 < n) : ∃ g cap, v = .slice (some ⟨g, 0, none⟩) n cap ∧ n ≤ cap ∧ cap ≤ 9223372036854775807 ∧ base ≤ g ∧ RwU w g n (ua l) := by
  have hl := h.1
  obtain ⟨a, cap, rfl⟩ := h.form
  have hh := h.holds Us.cs_len
  rcases h.2.2 with ⟨hv, hn⟩ | ⟨g, cap', cur, hv, hg, hb, _⟩
  · simp at hv; omega
  · cases hv
    obtain ⟨b, o, e, R⟩ := hh.rowU hp
    cases e
    refine ⟨g, cap, rfl, hh.2.1, hh.2.2.1, hg, (Array.getElem?_eq_some_iff.1 hb).1, fun j hj => ?_⟩
    obtain ⟨r1, r2, r3⟩ := R j hj
    rw [Nat.zero_add] at r1 r2 r3
    exact ⟨r1, r2, r3, by simp [World.frozen?, hb]⟩
/-- The first k uses, of which that of the queue q has c more. -/
def updF (l : List Us) (q c : Int) (k : Nat) (j : Nat) : Us := if j < k ∧ (ua l j).qu = q then ⟨(ua l j).qu, (ua l j).uc + c, (ua l j).um⟩ else ua l j
def updU (q c : Int) (l : List Us) : List Us := l.map (fun u => if u.qu = q then ⟨u.qu, u.uc + c, u.um⟩ else u)
theorem updU_len (q c : Int) (l : List Us) : (updU q c l).length = l.length := by simp [updU]
theorem updU_at {q c : Int} {l : List Us} {j : Nat} (h : j < l.length) : ua (updU q c l) j = updF l q c l.length j := by
  unfold updF ua updU
  rw [List.getElem?_map, List.getElem?_eq_getElem h]
  simp only [Option.map_some, Option.getD_some]
  by_cases e : l[j].qu = q
  · rw [if_pos e, if_pos ⟨h, e⟩]
  · rw [if_neg e, if_neg (fun h => e h.2)]
theorem updF_step (l : List Us) (q c : Int) (k : Nat) (j : Nat) : updF l q c (k + 1) j = if j = k ∧ (ua l k).qu = q then ⟨(ua l k).qu, (ua l k).uc + c, (ua l k).um⟩ else updF l q c k j := by
  unfold updF
  by_cases e : j = k
  · subst e
    by_cases e2 : (ua l j).qu = q
    · rw [if_pos ⟨by omega, e2⟩, if_pos ⟨rfl, e2⟩]
    · rw [if_neg (fun h => e2 h.2), if_neg (fun h => e2 h.2), if_neg (fun h => e2 h.2)]
  · rw [if_neg (c := j = k ∧ _) (fun h => e h.1)]
    by_cases e2 : j < k ∧ (ua l j).qu = q
    · rw [if_pos ⟨by omega, e2.2⟩, if_pos e2]
    · rw [if_neg e2, if_neg (fun h => e2 ⟨by omega, h.2⟩)]
/-- The leases with one more. -/
def mor (ls : List Le) (q m : Int) (sa : Option Addr) : List Le := ls ++ [⟨0, q, 0, sa, 0, 0, m, 0, 0, false, []⟩]
theorem mor_okB {ls : List Le} {q m : Int} {sa : Option Addr} (h : ∀ x ∈ ls, x.okB) (hq : I64 q) : ∀ x ∈ mor ls q m sa, x.okB := by
  intro x hx
  rcases List.mem_append.1 hx with hx | hx
  · exact h x hx
  · rw [List.mem_singleton.1 hx]; exact ⟨hq, by unfold I64; simp, by unfold I64; simp⟩
theorem mor_use (ls : List Le) (q m : Int) (sa : Option Addr) (y : Int) : useT (mor ls q m sa) y (mor ls q m sa).length = if q = y then ((useT ls y ls.length).1, (useT ls y ls.length).2 + m) else useT ls y ls.length := by
  rw [useT_sum _ _ (Nat.le_refl _), List.take_length, useT_sum _ _ (Nat.le_refl _), List.take_length]
  unfold mor
  rw [sumL_snoc]
  by_cases e : q = y
  · rw [if_pos e, if_pos e]; exact Prod.ext (by simp) rfl
  · rw [if_neg e, if_neg e]
theorem mor_in {ls : List Le} {q m : Int} {sa : Option Addr} (h : ∀ x ∈ ls, x.okB) (hq : I64 q) : q ∈ idsT (mor ls q m sa) (mor ls q m sa).length :=
  (mem_idsT (mor_okB h hq)).2 ⟨⟨0, q, 0, sa, 0, 0, m, 0, 0, false, []⟩, List.mem_append.2 (.inr (List.mem_singleton.2 rfl)), rfl⟩
theorem sumQ_nil : ∀ l : List Int, sumQ (fun _ => 0) l = 0 := by
  intro l
  induction l with
  | nil => rfl
  | cons y r ih => show (0 : Int) + sumQ _ r = 0; rw [ih]; rfl
theorem updU_uses (q c : Int) (g : Int → Int × Int) (ids : List Int) : updU q c (usesOf g ids) = usesOf (fun y => if y = q then ((g y).1 + c, (g y).2) else g y) ids := by
  unfold updU usesOf
  rw [List.map_map]
  refine List.map_congr_left (fun y _ => ?_)
  show (if y = q then _ else _) = _
  by_cases e : y = q
  · rw [if_pos e]; simp only [if_pos e]
  · rw [if_neg e]; simp only [if_neg e]
set_option maxHeartbeats 1000000 in
/-- What a leaf would use with its need, as queue.Sums tells it. -/
theorem guards_vec {l : List Qu} {ls : List Le} {q c m : Int} {sa : Option Addr} (hok : ∀ x ∈ ls, x.okB) (hq : I64 q) (hU : useErr (mor ls q m sa) = 0) (hS : sumsE l (updU q c (uvL (mor ls q m sa))) = 0) :
    vecAt l (updU q c (uvL (mor ls q m sa))) (pl l q) = ((useT ls q ls.length).1 + c, (useT ls q ls.length).2 + m) ∧ pl l q < l.length ∧ leafB l q = true := by
  rw [uvL_yes hU] at hS ⊢
  unfold useV at hS ⊢
  rw [updU_uses] at hS ⊢
  have hokm := mor_okB (m := m) (sa := sa) hok hq
  have hR := riseT hokm (Nat.le_refl _)
  have hin := mor_in (m := m) (sa := sa) hok hq
  have hC := (sumsE_zero hS).1
  have hF := (chkE_ok.1 hC).2.1
  have hleaf : ∀ y ∈ idsT (mor ls q m sa) (mor ls q m sa).length, hasQ l y = true ∧ leafB l y = true := fun y hy => by
    have := useE_zero (sumsE_all hS _ (List.mem_map.2 ⟨y, hy, rfl⟩))
    exact ⟨this.1, this.2.1⟩
  have hp : pl l q < l.length := of_decide_eq_true (hleaf q hin).1
  refine ⟨?_, hp, (hleaf q hin).2⟩
  have hind : ∀ y ∈ idsT (mor ls q m sa) (mor ls q m sa).length, (pl l q ∈ pth l (pl l y) ↔ y = q) := fun y hy => by
    have hyp : pl l y < l.length := of_decide_eq_true (hleaf y hy).1
    rw [leaf_way hF hp (by rw [pl_id hp]; exact (hleaf q hin).2) hyp]
    constructor
    · intro e
      have h1 : (qa l (pl l y)).id = y := pl_id hyp
      rw [← e, pl_id hp] at h1
      exact h1.symm
    · rintro rfl; rfl
  have one : ∀ (pr : Int × Int → Int) (g : Int → Int × Int), sumU (fun u => pr (u.uc, u.um)) l (pl l q) (usesOf g (idsT (mor ls q m sa) (mor ls q m sa).length)) = pr (g q) := fun pr g => by
    rw [sumU_usesOf, sumQ_same (t := fun y => if y = q then pr (g q) else 0) (fun y hy => by
      by_cases e : y = q
      · rw [if_pos ((hind y hy).2 e), if_pos e, e]
      · rw [if_neg (fun h => e ((hind y hy).1 h)), if_neg e])]
    have := sumQ_upd (t := fun _ => 0) (t' := fun y => if y = q then pr (g q) else 0) (q := q) (d := pr (g q)) (by simp) (fun y hy => by simp [hy]) hR.1 hin
    rw [this, sumQ_nil]; omega
  have o1 := one Prod.fst (fun y => if y = q then ((useT (mor ls q m sa) y (mor ls q m sa).length).1 + c, (useT (mor ls q m sa) y (mor ls q m sa).length).2) else useT (mor ls q m sa) y (mor ls q m sa).length)
  have o2 := one Prod.snd (fun y => if y = q then ((useT (mor ls q m sa) y (mor ls q m sa).length).1 + c, (useT (mor ls q m sa) y (mor ls q m sa).length).2) else useT (mor ls q m sa) y (mor ls q m sa).length)
  simp only [if_true] at o1 o2
  rw [mor_use, if_pos rfl] at o1 o2
  unfold vecAt
  exact Prod.ext o1 o2
/-- .. tells who is starved. -/
theorem guards_eq {l : List Qu} {ls : List Le} {u : Us} {sa : Option Addr} (hok : ∀ x ∈ ls, x.okB) (h : readE l ls = 0) (hq : I64 u.qu) (hu : useE l u = 0) (hU : useErr (mor ls u.qu u.um sa) = 0) (hS : sumsE l (updU u.qu u.uc (uvL (mor ls u.qu u.um sa))) = 0) :
    stB (fun id => qfT l id l.length) (fun q => useT ls q ls.length) u.qu u.uc u.um = fitB (vecAt l (updU u.qu u.uc (uvL (mor ls u.qu u.um sa))) (pl l u.qu)).1 (vecAt l (updU u.qu u.uc (uvL (mor ls u.qu u.um sa))) (pl l u.qu)).2 (qa l (pl l u.qu)).mc (qa l (pl l u.qu)).mm := by
  obtain ⟨e, hp, hl⟩ := guards_vec hok hq hU hS
  have hf := fits_at (sumsE_zero hS).2 hp
  rw [e] at hf ⊢
  have hG := chkE_ok.1 (readE_parts h).1
  have hqf : qfT l u.qu l.length = some (qa l (pl l u.qu)) := qfT_at hG.2.1 hp
  have hg := fitT_ok (q := u.qu) (useErr_gd (readE_parts h).2.1).2
  obtain ⟨z1, z2, z3, z4⟩ := useE_zero hu
  unfold stB
  simp only [hqf, Option.getD_some]
  have hu2 : okv (u.uc, u.um) = true := okv_of z3 z4
  rw [(rop_yes (s := ((useT ls u.qu ls.length).1 + u.uc, (useT ls u.qu ls.length).2 + u.um)) (by simp [hg, hu2])).1]
  unfold rin
  rw [if_pos hf]
  simp
/-- Needs that rise: who is starved is told by its own need alone. -/
theorem nd_rise {l : List Qu} {nd : List Us} (h : ndE l nd nd.length = 0) : ∀ {j k : Nat}, j < k → k < nd.length → (ua nd j).qu < (ua nd k).qu := by
  have step : ∀ k, 0 < k → k < nd.length → (ua nd (k - 1)).qu < (ua nd k).qu := fun k h0 hk => by
    have h1 : ndE l nd (k + 1) = 0 := Classical.byContradiction (fun hn => by rw [ndE_stay hn (by omega)] at h; exact hn h)
    have h2 : ndE l nd k = 0 := Classical.byContradiction (fun hn => by rw [ndE_stay hn (show k ≤ nd.length by omega)] at h; exact hn h)
    have h3 : ndE l nd (k + 1) = if 0 < k ∧ (ua nd k).qu ≤ (ua nd (k - 1)).qu then 4 else useE l (ua nd k) := by
      show (if ndE l nd k ≠ 0 then _ else _) = _
      rw [if_neg (by rw [h2]; simp)]
    rw [h3] at h1
    refine Classical.byContradiction (fun hn => ?_)
    rw [if_pos ⟨h0, by omega⟩] at h1
    cases h1
  intro j k hjk hk
  induction k with
  | zero => omega
  | succ k ih =>
    have := step (k + 1) (by omega) hk
    simp only [Nat.add_sub_cancel] at this
    rcases Nat.lt_or_ge j k with h1 | h1
    · have := ih h1 (by omega); omega
    · obtain rfl : j = k := by omega
      exact this
theorem stT_mem {f : Int → Option Qu} {g : Int → Int × Int} {nd : List Us} {q : Int} : ∀ {n : Nat}, q ∈ stT f g nd n ↔ ∃ j, j < n ∧ stB f g (ua nd j).qu (ua nd j).uc (ua nd j).um = true ∧ (ua nd j).qu = q := by
  intro n
  induction n with
  | zero => simp [stT]
  | succ n ih =>
    unfold stT
    split
    · rename_i hb
      rw [List.mem_append, ih, List.mem_singleton]
      constructor
      · rintro (⟨j, hj, h⟩ | h)
        · exact ⟨j, by omega, h⟩
        · exact ⟨n, by omega, hb, h.symm⟩
      · rintro ⟨j, hj, h1, h2⟩
        rcases Nat.lt_or_ge j n with h3 | h3
        · exact .inl ⟨j, h3, h1, h2⟩
        · obtain rfl : j = n := by omega
          exact .inr h2.symm
    · rename_i hb
      rw [ih]
      constructor
      · rintro ⟨j, hj, h⟩; exact ⟨j, by omega, h⟩
      · rintro ⟨j, hj, h1, h2⟩
        rcases Nat.lt_or_ge j n with h3 | h3
        · exact ⟨j, h3, h1, h2⟩
        · obtain rfl : j = n := by omega
          exact absurd h1 hb
theorem st_has {l : List Qu} {ls : List Le} {nd : List Us} (h : starvE l ls nd = 0) {k : Nat} (hk : k < nd.length) : hasN (starvL l ls nd) (ua nd k).qu = stB (fun id => qfT l id l.length) (fun q => useT ls q ls.length) (ua nd k).qu (ua nd k).uc (ua nd k).um := by
  have hR : readE l ls = 0 := by
    unfold starvE at h
    by_cases e : readE l ls = 0
    · exact e
    · rw [if_neg e] at h; exact absurd h e
  have hN : ndE l nd nd.length = 0 := by unfold starvE at h; rwa [if_pos hR] at h
  unfold starvL
  rw [if_pos h]
  cases hb : stB (fun id => qfT l id l.length) (fun q => useT ls q ls.length) (ua nd k).qu (ua nd k).uc (ua nd k).um with
  | true => exact hasN_iff.2 (stT_mem.2 ⟨k, hk, hb, rfl⟩)
  | false =>
    cases hh : hasN (stT (fun id => qfT l id l.length) (fun q => useT ls q ls.length) nd nd.length) (ua nd k).qu with
    | false => rfl
    | true =>
      obtain ⟨j, hj, h1, h2⟩ := stT_mem.1 (hasN_iff.1 hh)
      exfalso
      rcases Nat.lt_trichotomy j k with h3 | h3 | h3
      · have := nd_rise hN h3 hk; omega
      · subst h3; rw [hb] at h1; cases h1
      · have := nd_rise hN h3 hj; omega
theorem ndE_each {l : List Qu} {nd : List Us} (h : ndE l nd nd.length = 0) {k : Nat} (hk : k < nd.length) : useE l (ua nd k) = 0 := by
  have h1 : ndE l nd (k + 1) = 0 := Classical.byContradiction (fun hn => by rw [ndE_stay hn (by omega)] at h; exact hn h)
  have h2 : ndE l nd k = 0 := Classical.byContradiction (fun hn => by rw [ndE_stay hn (show k ≤ nd.length by omega)] at h; exact hn h)
  have h3 : ndE l nd (k + 1) = if 0 < k ∧ (ua nd k).qu ≤ (ua nd (k - 1)).qu then 4 else useE l (ua nd k) := by
    show (if ndE l nd k ≠ 0 then _ else _) = _
    rw [if_neg (by rw [h2]; simp)]
  rw [h3] at h1
  split at h1
  · cases h1
  · exact h1
theorem mor_pos {ls : List Le} {q m : Int} {sa : Option Addr} (h : ∀ x ∈ ls, x.okB) (hq : I64 q) (hU : useErr (mor ls q m sa) = 0) : 0 < (uvL (mor ls q m sa)).length := by
  rw [uvL_yes hU]
  unfold useV
  rw [usesOf_len]
  exact List.length_pos_of_mem (mor_in h hq)
theorem useV_okv {m : List Le} (hU : useErr m = 0) : ∀ u ∈ uvL m, okv (u.uc, u.um) = true := by
  rw [uvL_yes hU]
  intro u hu
  obtain ⟨q, _, rfl⟩ := List.mem_map.1 hu
  exact fitT_ok (useErr_gd hU).2
theorem RwU.congr {w : World} {g n : Nat} {f f' : Nat → Us} (h : RwU w g n f) (e : ∀ j, j < n → f' j = f j) : RwU w g n f' := ⟨h.1, fun j hj => by rw [e j hj]; exact h.2 j hj⟩
theorem updU_q {q c : Int} {l : List Us} (h : ∀ u ∈ l, I64 u.qu) : ∀ u ∈ updU q c l, I64 u.qu := by
  intro u hu
  obtain ⟨x, hx, rfl⟩ := List.mem_map.1 hu
  split
  · exact h x hx
  · exact h x hx
end Go.Proofs.Ytdbkjcnanffibaa
