/-
  Rows of numbers; the same but one block; nodes, rooms and leases.
-/
import Derived.Test.YtikalkigmnipiaaQS
import Derived.Test.YtikalkigmnipiaaVD
import Derived.BigQuiet
import Derived.Deep.QuietTactic
import Derived.Deep.MidRow
namespace Go.Proofs.Ytikalkigmnipiaa
open Go.RowKit Go.Deep Go.Maps Go.Shelf
set_option linter.unusedVariables false
set_option linter.unusedSimpArgs false

theorem encN_one (x : Int) : ∀ u ∈ encN x, u.oneCell' = true := by intro u hu; simp [encN] at hu; subst hu; rfl

section
variable {ops : Array Oper} {rest : List Oper} {o : Oper} {a : Act} {Q : Exit → Act → World → Prop}
/-- 'append(m, x)' of numbers. -/
theorem push_ownN (wr : World) (x : Int) (hg : o.guard = none) (s y : Operand) (hop : o.op = Op.call { callee := Callee.builtin Builtin.append, args := #[s, y], argTypes := #[28, 28] })
    (base n : Nat) (v : Value) (l : List Int) (hs : a.eval s = v) (hown : OwnN base wr v n l) (hb : base ≤ wr.heap.size) (hx : a.eval y = .slice (some ⟨wr.heap.size, 0, none⟩) 1 1) (b1 : n + 1 ≤ 1000000)
    (hK : ∀ v' w', OwnN base w' v' (n + 1) (l ++ [x]) → Below base wr w' → wr.grownBy w' v.ownBlock → wpList Try.prog ops Q rest (a.put o.dst v') w') :
    wpList Try.prog ops Q (o :: rest) a (wr.alloc (.cells #[.int .i64 x] 3)) :=
  push_ownE 28 3 (.int .i64 0) 8 encN_len encN_one Try.underlying28 infoN rfl (by decide) wr x hg s y hop base n v l _ rfl hs hown hb hx (by omega) (by omega) hK
end


/-- Whole numbers of a list. -/
def na (l : List Int) (i : Nat) : Int := l[i]?.getD 0
theorem na_get {l : List Int} {i : Nat} (h : i < l.length) : l[i]? = some (na l i) := by unfold na; rw [List.getElem?_eq_getElem h]; rfl
theorem na_mem {l : List Int} {i : Nat} (h : i < l.length) : na l i ∈ l := List.mem_of_getElem? (na_get h)
theorem HoldsE.rowA {w : World} {a : Option Addr} {len cap : Nat} {l : List Int} (h : HoldsN w a len cap l) (hp : 0 < len) : ∃ b off, a = some ⟨b, off, none⟩ ∧ ∀ j, j < len → w.cell? ⟨b, off + j, none⟩ = some (.int .i64 (na l j)) := by
  obtain ⟨h1, h2, h3, h4, h5⟩ := h
  obtain ⟨b, off, e, hlt, hc⟩ := h5 hp
  refine ⟨b, off, e, fun j hj => ?_⟩
  have hh := hc j _ (na_get (by omega)) 0 _ rfl
  rw [Nat.mul_one, Nat.add_zero] at hh
  exact hh

/-- Does a list rise strictly? -/
def riseB : List Int → Bool
  | [] => true
  | [_] => true
  | x :: y :: r => decide (x < y) && riseB (y :: r)
theorem riseB_iff : ∀ {l : List Int}, riseB l = true ↔ ∀ k, k + 1 < l.length → na l k < na l (k + 1) := by
  intro l
  induction l with
  | nil => simp [riseB]
  | cons x r ih =>
    cases r with
    | nil => simp [riseB]
    | cons y r =>
      unfold riseB
      rw [Bool.and_eq_true, decide_eq_true_eq, ih]
      constructor
      · rintro ⟨h1, h2⟩ k hk
        cases k with
        | zero => exact h1
        | succ k => exact h2 k (by simpa using hk)
      · intro h
        exact ⟨h 0 (by simp), fun k hk => h (k + 1) (by simpa using hk)⟩
theorem riseB_no {l : List Int} {k : Nat} (hk : k + 1 < l.length) (h : ¬ na l k < na l (k + 1)) : riseB l = false := by
  cases e : riseB l
  · rfl
  · exact absurd (riseB_iff.1 e k hk) h


structure But (b : Nat) (w w' : World) : Prop where
  bel : Below b w w'
  oth : ∀ k, k < w.heap.size → k ≠ b → w'.heap[k]? = w.heap[k]?
theorem But.refl (b : Nat) (w : World) : But b w w := ⟨Below.refl _ _, fun _ _ _ => rfl⟩
theorem But.size {b : Nat} {w w' : World} (h : But b w w') : w.heap.size ≤ w'.heap.size := h.bel.size
theorem But.trans {b : Nat} {w w' w'' : World} (h : But b w w') (k : But b w' w'') : But b w w'' :=
  ⟨h.bel.trans k.bel, fun i hi hb => (k.oth i (Nat.lt_of_lt_of_le hi h.size) hb).trans (h.oth i hi hb)⟩
theorem But.of {b : Nat} {w w' : World} (h : Below w.heap.size w w') (hb : b ≤ w.heap.size) : But b w w' := ⟨h.mono hb, fun k hk _ => h.block k hk⟩
theorem But.grown {b : Nat} {w w' : World} (h : w.grownBy w' (some b)) (hb : b ≤ w.heap.size) : But b w w' :=
  ⟨(Below.refl b w).grown h hb (fun k e => by cases e; exact Nat.le_refl _), fun k hk hn => h.block k hk (fun e => hn (by cases e; rfl))⟩
theorem But.cell {b : Nat} {w w' : World} (h : But b w w') {x o : Nat} {v : Value} (hc : w.cell? ⟨x, o, none⟩ = some v) (hx : x ≠ b) : w'.cell? ⟨x, o, none⟩ = some v := by
  have hlt := cell_lt hc
  exact (World.cell?_of_block (w := w) (h.oth x hlt hx)).trans hc
theorem But.frozen {b : Nat} {w w' : World} (h : But b w w') {x o : Nat} {v : Value} (hc : w.cell? ⟨x, o, none⟩ = some v) (hx : x ≠ b) (hf : w.frozen? ⟨x, o, none⟩ = false) : w'.frozen? ⟨x, o, none⟩ = false := by
  have hlt := cell_lt hc
  exact (World.frozen?_of_block (w := w) (h.oth x hlt hx)).trans hf
theorem But.holds {α : Type} {k : Nat} {enc : α → List Value} {b : Nat} {w w' : World} {a : Option Addr} {len cap : Nat} {l : List α} (h : But b w w') (hh : HoldsE k enc w a len cap l) (hm : ∀ x o, a = some ⟨x, o, none⟩ → 0 < len → x ≠ b) : HoldsE k enc w' a len cap l := by
  obtain ⟨h1, h2, h3, h4, h5⟩ := hh
  refine ⟨h1, h2, h3, h4, fun hp => ?_⟩
  obtain ⟨x, off, e, hlt, hc⟩ := h5 hp
  exact ⟨x, off, e, Nat.lt_of_lt_of_le hlt h.size, fun j y hy i v hv => h.cell (hc j y hy i v hv) (hm x off e hp)⟩

set_option maxRecDepth 100000 in
set_option maxHeartbeats 2000000 in
theorem rrises_any (a : Option Addr) (len ca : Nat) (l : List Int) (w : World) (h : HoldsN w a len ca l) :
    Calls Try.prog 86 #[.slice a len ca] w fun e w' => e = .returned (.bool (riseB l)) ∧ Below w.heap.size w w' := by
  have HH := hid h
  have HL := hid h.1
  have hcap := h.2.1
  have hcm := h.2.2.1
  clear h
  go_enter Try.func86, Try.ntmps86
  go_wp2_with fail
  go_loopw [6] (fun i wr => ∃ k : Nat, k ≤ len ∧ i = .int .i64 k ∧ Hid (∀ j, j + 1 < k → na l j < na l (j + 1)) ∧ Hid (Below w.heap.size w wr)) (fun i _ => len - (intOf i).toNat)
  case atStart => exact ⟨0, by omega, rfl, fun j hj => by omega, Below.refl _ _⟩
  case round =>
    obtain ⟨k, hk, rfl, hgo, hB⟩ := hrel
    by_cases hlt : k < len
    · obtain ⟨wb, wo, rfl, R⟩ := HH.out.rowA (by omega)
      rcases Nat.eq_zero_or_pos k with rfl | hp
      · have HB := hid (fun n => below_drewN hB.out n)
        go_wp2_with fail
        go_quiet (fail)
        go_wp2
        go_roundw
        case rel => exact ⟨1, by omega, by go_num, fun j hj => by omega, HB.out _⟩
        case measure => simp [intOf]; omega
      · obtain ⟨m, rfl⟩ : ∃ m, k = m + 1 := ⟨k - 1, by omega⟩
        have c0 := keepc hB.out (R m (by omega))
        have c1 := keepc hB.out (R (m + 1) hlt)
        clear R
        have hlt' : m + 1 < l.length := by rw [HL.out]; exact hlt
        have GO : Hid (na l m < na l (m + 1) → ∀ j, j + 1 < m + 1 + 1 → na l j < na l (j + 1)) := fun h j hj => by
          rcases Nat.lt_or_ge j m with h1 | h1
          · exact hgo.out j (by omega)
          · rw [show j = m by omega]; exact h
        have NO : Hid (¬ na l m < na l (m + 1) → riseB l = false) := fun h => riseB_no hlt' h
        generalize na l m = x at *
        generalize na l (m + 1) = y at *
        have e1 : ((m + 1 : Nat) : Int) = (m : Int) + 1 := by omega
        have e2 : ((m : Int) + 1 - 1) = (m : Int) := by omega
        have g0 : decide ((0 : Int) < ((m + 1 : Nat) : Int)) = true := decide_eq_true (by omega)
        have g1 : (0 : Int) ≤ (m : Int) := by omega
        have g2 : (m : Int) < (len : Int) := by omega
        have g3 : IntKind.i64.wrap (((m + 1 : Nat) : Int) - 1) = (m : Int) := by rw [IntKind.wrap_i64]; omega
        have g4 : (0 : Int) ≤ ((m + 1 : Nat) : Int) := by omega
        have g5 : ((m + 1 : Nat) : Int) < (len : Int) := by omega
        have HB := hid (fun n => below_drewN hB.out n)
        clear e1 e2 hgo
        by_cases hxy : x < y
        · have t : decide (y ≤ x) = false := by simp; omega
          have G := hid (GO.out hxy)
          clear GO NO hxy
          go_wp2_with fail
          go_quiet (fail)
          go_wp2
          go_roundw
          case rel => exact ⟨m + 1 + 1, by omega, by go_num, G, HB.out _⟩
          case measure => simp [intOf]; omega
        · have t : decide (y ≤ x) = true := by simp; omega
          have G := hid (NO.out hxy)
          clear GO NO hxy
          go_wp2_with fail
          go_quiet (fail)
          go_wp2
          go_ret
          exact ⟨retb G.out.symm, HB.out _⟩
    · have G : Hid (riseB l = true) := riseB_iff.2 (fun j hj => hgo.out j (by have := HL.out; omega))
      have HB := hid hB.out
      go_wp2
      go_ret
      exact ⟨retb G.out.symm, HB.out⟩


/-- A node. -/
structure Nd where
  id : Int
  co : Int
  me : Int
  inc : Int
  bt : Int
def Nd.cs (n : Nd) : List Value := [.int .i64 n.id, .int .i64 n.co, .int .i64 n.me, .int .i64 n.inc, .int .i64 n.bt]
theorem Nd.cs_len (n : Nd) : n.cs.length = 5 := rfl
abbrev HoldsD (w : World) (a : Option Addr) (len cap : Nat) (l : List Nd) : Prop := HoldsE 5 Nd.cs w a len cap l
def Nd.ok (n : Nd) : Prop := I64 n.id ∧ I64 n.co ∧ I64 n.me ∧ I64 n.inc ∧ I64 n.bt
/-- A room. -/
structure Rm where
  nd : Nd
  tk : Nat → Bool
  fc : Int
  fm : Int
def Rm.cs (r : Rm) : List Value := r.nd.cs ++ ((List.range 64).map (fun i => Value.bool (r.tk i)) ++ [.int .i64 r.fc, .int .i64 r.fm])
theorem Rm.cs_len (r : Rm) : r.cs.length = 71 := by unfold Rm.cs; simp [Nd.cs_len]
theorem Rm.one (r : Rm) : ∀ u ∈ r.cs, u.oneCell' = true := by
  intro u hu
  unfold Rm.cs at hu
  rcases List.mem_append.1 hu with h | h
  · simp [Nd.cs] at h; rcases h with rfl | rfl | rfl | rfl | rfl <;> rfl
  · rcases List.mem_append.1 h with h | h
    · obtain ⟨i, _, rfl⟩ := List.mem_map.1 h; rfl
    · simp at h; rcases h with rfl | rfl <;> rfl
abbrev OwnR (base : Nat) (w : World) (v : Value) (n : Nat) (l : List Rm) : Prop := OwnE 80 71 Rm.cs base w v n l
abbrev HoldsR (w : World) (a : Option Addr) (len cap : Nat) (l : List Rm) : Prop := HoldsE 71 Rm.cs w a len cap l
/-- The room of a node without leases. -/
def rm0 (n : Nd) : Rm := ⟨n, fun _ => false, n.co, n.me⟩
def nd0 : Nd := ⟨0, 0, 0, 0, 0⟩
def da (l : List Nd) (i : Nat) : Nd := l[i]?.getD nd0
theorem da_get {l : List Nd} {i : Nat} (h : i < l.length) : l[i]? = some (da l i) := by unfold da; rw [List.getElem?_eq_getElem h]; rfl
theorem HoldsE.rowD {w : World} {a : Option Addr} {len cap : Nat} {l : List Nd} (h : HoldsD w a len cap l) (hp : 0 < len) : ∃ b off, a = some ⟨b, off, none⟩ ∧ ∀ j, j < len → w.cell? ⟨b, off + j * 5, none⟩ = some (.int .i64 (da l j).id) ∧ w.cell? ⟨b, off + j * 5 + 1, none⟩ = some (.int .i64 (da l j).co) ∧ w.cell? ⟨b, off + j * 5 + 2, none⟩ = some (.int .i64 (da l j).me) ∧ w.cell? ⟨b, off + j * 5 + 3, none⟩ = some (.int .i64 (da l j).inc) ∧ w.cell? ⟨b, off + j * 5 + 4, none⟩ = some (.int .i64 (da l j).bt) := by
  obtain ⟨h1, h2, h3, h4, h5⟩ := h
  obtain ⟨b, off, e, hlt, hc⟩ := h5 hp
  refine ⟨b, off, e, fun j hj => ?_⟩
  have hh := hc j _ (da_get (by omega))
  exact ⟨hh 0 _ rfl, hh 1 _ rfl, hh 2 _ rfl, hh 3 _ rfl, hh 4 _ rfl⟩
/-- A node of the form, behind an Id. -/
def ndB (x : Int) (n : Nd) : Bool := !(decide (n.id ≤ x)) && !(decide (n.co < 1)) && !(decide (64 < n.co)) && decide (chk n.co n.me = 0)
/-- Are nodes of the form? -/
def ndsB : Int → List Nd → Bool
  | _, [] => true
  | x, n :: r => ndB x n && ndsB n.id r
theorem infoR : (Try.prog.info? 80).map (fun i => (i.zero, i.size, i.bytes)) = some (some (.agg (Rm.cs (rm0 nd0)).toArray), 71, 120) := by kernel_rfl

end Go.Proofs.Ytikalkigmnipiaa
