/-
  Law08's helpers: lists of uses compared, the place of a queue.
-/
import Derived.Test.YtdbkjcnanffibaaUZ
import Derived.Test.YtdbkjcnanffibaaQW
import Derived.Laws.StructEq
namespace Go.Proofs.Ytdbkjcnanffibaa
open Go.RowKit Go.Deep Go.Maps Go.Shelf
set_option linter.unusedVariables false
set_option linter.unusedSimpArgs false

theorem ret_b {a b : Bool} (h : a = b) : Ending.returned (.bool b) = Ending.returned (.bool a) := by rw [h]
/-- The list of 'Uses', told by what it is, also beside an error. -/
theorem AnsS.isU {lo : Nat} {w : World} {v : Value} {l : List Le} (hok : ∀ x ∈ l, x.okB) (h : AnsS lo w v (useErr l) l) : OwnE 45 3 Us.cs lo w v (uvL l).length (uvL l) := by
  unfold uvL
  by_cases e : useErr l = 0
  · rw [if_pos e]; exact (h.is hok e).1
  · rw [if_neg e]
    rcases h with ⟨_, rfl⟩ | ⟨h, _⟩
    · exact OwnE.nil _ _ _ _ _
    · exact absurd h e
theorem uvL_le {l : List Le} : (uvL l).length ≤ l.length := by
  unfold uvL
  split
  · unfold useV; rw [usesOf_len]; exact idsT_len l l.length
  · simp
theorem uvL_q {l : List Le} (hok : ∀ x ∈ l, x.okB) : ∀ u ∈ uvL l, I64 u.qu := by
  unfold uvL
  split
  · exact useV_q hok
  · intro u hu; cases hu

theorem nequ_same (a b c : Int) (w : World) : Sem.run Try.prog (binOp BinOp.neq 45 (.agg #[.int .i64 a, .int .i64 b, .int .i64 c]) (.agg #[.int .i64 a, .int .i64 b, .int .i64 c])) w = .ok (.bool false) w := by
  have hS : Try.prog.underlying 45 = some (.struct (Try.prog.fieldsOf 45)) := by kernel_rfl
  have hp : Try.prog.stoodInHeld 45 = false := by kernel_rfl
  have hS2 : Try.prog.underlying 32 = some (.struct (Try.prog.fieldsOf 32)) := by kernel_rfl
  have hp2 : Try.prog.stoodInHeld 32 = false := by kernel_rfl
  have u3 := Try.underlying3
  have a3 := Try.isAgg3
  have z3 := Try.sizeOf3
  have u2 := Try.underlying2
  have a2 := Try.isAgg2
  have z2 := Try.sizeOf2
  have a24 := Try.isAgg32
  have z24 := Try.sizeOf32
  have e24 : ∀ (d : Nat) (x y : Int) (w : World), (Op.equalIn (d + 2) 32 (.agg #[.int .i64 x, .int .i64 y]) (.agg #[.int .i64 x, .int .i64 y])).run Try.prog w = .ok true w := fun d x y w => by
    rw [run_equalIn_agg w (d + 1) 32 _ _ hS2 hp2]
    simp only [Program.fieldsOf, Try.underlying32]
    go_simp
  rw [run_neq_struct, show (10000 : Nat) = 9999 + 1 from rfl, run_equalIn_agg w 9999 45 _ _ hS hp]
  simp only [Program.fieldsOf, Try.underlying45]
  go_simp

set_option maxRecDepth 100000 in
set_option maxHeartbeats 2000000 in
theorem usame_any (a b : Option Addr) (len ca cb : Nat) (l : List Us) (w : World) (h1 : HoldsU w a len ca l) (h2 : HoldsU w b len cb l) :
    Calls Try.prog 10 #[.slice a len ca, .slice b len cb] w fun e w' => e = .returned (.bool true) ∧ Below w.heap.size w w' := by
  rcases Nat.eq_zero_or_pos len with rfl | hp
  · clear h1 h2
    go_enter Try.func10, Try.ntmps10
    go_wp2_with fail
    refine wp_loop_rounds 1 ?_
    rw [rounds_succ]
    go_wp2
    go_ret
    exact ⟨rfl, Below.refl _ _⟩
  · have hl := h1.1
    have hca := h1.2.1
    have hcb := h2.2.1
    have hcm := h1.2.2.1
    obtain ⟨b1, o1, rfl, R1⟩ := h1.rowU hp
    obtain ⟨b2, o2, rfl, R2⟩ := h2.rowU hp
    have HR1 := hid R1
    have HR2 := hid R2
    have HL := hid hl
    have hns := nequ_same
    clear R1 R2 h1 h2 hl
    go_enter Try.func10, Try.ntmps10
    go_wp2_with fail
    go_loopw [13] (fun i wr => ∃ k : Nat, k ≤ len ∧ i = .int .i64 k ∧ Below w.heap.size w wr) (fun i _ => len - (intOf i).toNat)
    case atStart => exact ⟨0, by omega, rfl, Below.refl _ _⟩
    case round =>
      obtain ⟨k, hk, rfl, hB⟩ := hrel
      by_cases hlt : k < len
      · obtain ⟨c0, c1, c2⟩ := HR1.out k hlt
        obtain ⟨d0, d1, d2⟩ := HR2.out k hlt
        replace c0 := keepc hB c0
        replace c1 := keepc hB c1
        replace c2 := keepc hB c2
        replace d0 := keepc hB d0
        replace d1 := keepc hB d1
        replace d2 := keepc hB d2
        generalize ua l k = q at *
        obtain ⟨q1, q2, q3⟩ := q
        simp only at *
        have ka : (0 : Int) ≤ (k : Int) := by omega
        have kb : (k : Int) < (len : Int) := by omega
        go_wp2_with fail
        go_quiet (fail)
        go_wp2
        go_roundw
        case rel => exact ⟨k + 1, by omega, by go_num, below_drewN hB _⟩
        case measure => simp [intOf]; omega
      · go_wp2
        go_ret
        exact ⟨rfl, hB⟩

set_option maxHeartbeats 1000000 in
theorem rat_any (a : Option Addr) (len cap : Nat) (l : List Qu) (id : Int) (w : World) (h : HoldsQ w a len cap l) :
    Calls Try.prog 17 #[.slice a len cap, .int .i64 id] w fun e w' => e = .returned (.int .i64 (plI l id)) ∧ Below w.heap.size w w' := by
  have PL := hid (place_any a len cap l id w h)
  clear h
  go_enter Try.func17, Try.ntmps17
  go_wp2_with fail
  refine PL.out.mono ?_
  rintro e w1 ⟨rfl, b1⟩
  go_wp2
  go_ret
  exact ⟨rfl, b1⟩
end Go.Proofs.Ytdbkjcnanffibaa
