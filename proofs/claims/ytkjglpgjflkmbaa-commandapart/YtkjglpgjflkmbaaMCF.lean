/-
  Contracts of furlongref10: structs, lists, tasks that are not alike.
  Contracts of furlongref10: two entries that are not alike.
-/
import Derived.Test.YtkjglpgjflkmbaaMCZ
namespace Go.Proofs.Ytkjglpgjflkmbaa
open Go.RowKit Go.Deep Go.Maps
set_option linter.unusedVariables false
set_option linter.unusedSimpArgs false

theorem eq_vec_no (a b c d : Int) (h : ¬ (a = c ∧ b = d)) (w : World) : Sem.run Try.prog (binOp BinOp.eql 23 (.agg #[.int .i64 a, .int .i64 b]) (.agg #[.int .i64 c, .int .i64 d])) w = .ok (.bool false) w := by
  have hS : Try.prog.underlying 23 = some (.struct (Try.prog.fieldsOf 23)) := by kernel_rfl
  have hp : Try.prog.stoodInHeld 23 = false := by kernel_rfl
  have u2 := Try.underlying2
  have a2 := Try.isAgg2
  have z2 := Try.sizeOf2
  rw [run_eql_struct, show (10000 : Nat) = 9999 + 1 from rfl, run_equalIn_agg w 9999 23 _ _ hS hp]
  simp only [Program.fieldsOf, Try.underlying23]
  by_cases h1 : a = c
  · subst h1
    have h2 : ¬ b = d := fun e => h ⟨rfl, e⟩
    go_simp
  · go_simp
theorem eqin_vec (d : Nat) (a b x y : Int) (w : World) : (Op.equalIn (d + 2) 23 (.agg #[.int .i64 a, .int .i64 b]) (.agg #[.int .i64 x, .int .i64 y])).run Try.prog w = .ok (decide (a = x ∧ b = y)) w := by
  have hS2 : Try.prog.underlying 23 = some (.struct (Try.prog.fieldsOf 23)) := by kernel_rfl
  have hp2 : Try.prog.stoodInHeld 23 = false := by kernel_rfl
  have u2 := Try.underlying2
  have a2 := Try.isAgg2
  have z2 := Try.sizeOf2
  rw [run_equalIn_agg w (d + 1) 23 _ _ hS2 hp2]
  simp only [Program.fieldsOf, Try.underlying23]
  by_cases h1 : a = x
  · subst h1
    by_cases h2 : b = y
    · subst h2
      go_simp
    · go_simp
  · go_simp
theorem eq_que_no (a b c d e f g a' b' c' d' e' f' g' : Int) (h : ¬ (a = a' ∧ b = b' ∧ c = c' ∧ d = d' ∧ e = e' ∧ f = f' ∧ g = g')) (w : World) : Sem.run Try.prog (binOp BinOp.eql 25 (.agg #[.int .i64 a, .int .i64 b, .int .i64 c, .int .i64 d, .int .i64 e, .int .i64 f, .int .i64 g]) (.agg #[.int .i64 a', .int .i64 b', .int .i64 c', .int .i64 d', .int .i64 e', .int .i64 f', .int .i64 g'])) w = .ok (.bool false) w := by
  have hS : Try.prog.underlying 25 = some (.struct (Try.prog.fieldsOf 25)) := by kernel_rfl
  have hp : Try.prog.stoodInHeld 25 = false := by kernel_rfl
  have u3 := Try.underlying3
  have a3 := Try.isAgg3
  have z3 := Try.sizeOf3
  have u2 := Try.underlying2
  have a2 := Try.isAgg2
  have z2 := Try.sizeOf2
  have a24 := Try.isAgg23
  have z24 := Try.sizeOf23
  have e24 := eqin_vec
  rw [run_eql_struct, show (10000 : Nat) = 9999 + 1 from rfl, run_equalIn_agg w 9999 25 _ _ hS hp]
  simp only [Program.fieldsOf, Try.underlying25]
  by_cases h1 : a = a'
  · subst h1
    by_cases h2 : b = b'
    · subst h2
      by_cases h3 : c = c'
      · subst h3
        by_cases h4 : d = d' ∧ e = e'
        · obtain ⟨h4, h5⟩ := h4
          subst h4 h5
          have h6 : ¬ (f = f' ∧ g = g') := fun h6 => h ⟨rfl, rfl, rfl, rfl, rfl, h6.1, h6.2⟩
          go_simp
        · go_simp
      · go_simp
    · go_simp
  · go_simp
theorem eq_nod_no (a b c d e a' b' c' d' e' : Int) (h : ¬ (a = a' ∧ b = b' ∧ c = c' ∧ d = d' ∧ e = e')) (w : World) : Sem.run Try.prog (binOp BinOp.eql 27 (.agg #[.int .i64 a, .int .i64 b, .int .i64 c, .int .i64 d, .int .i64 e]) (.agg #[.int .i64 a', .int .i64 b', .int .i64 c', .int .i64 d', .int .i64 e'])) w = .ok (.bool false) w := by
  have hS : Try.prog.underlying 27 = some (.struct (Try.prog.fieldsOf 27)) := by kernel_rfl
  have hp : Try.prog.stoodInHeld 27 = false := by kernel_rfl
  have u3 := Try.underlying3
  have a3 := Try.isAgg3
  have z3 := Try.sizeOf3
  have u2 := Try.underlying2
  have a2 := Try.isAgg2
  have z2 := Try.sizeOf2
  rw [run_eql_struct, show (10000 : Nat) = 9999 + 1 from rfl, run_equalIn_agg w 9999 27 _ _ hS hp]
  simp only [Program.fieldsOf, Try.underlying27]
  by_cases h1 : a = a'
  · subst h1
    by_cases h2 : b = b'
    · subst h2
      by_cases h3 : c = c'
      · subst h3
        by_cases h4 : d = d'
        · subst h4
          have h5 : ¬ e = e' := fun h5 => h ⟨rfl, rfl, rfl, rfl, h5⟩
          go_simp
        · go_simp
      · go_simp
    · go_simp
  · go_simp

set_option maxRecDepth 100000 in
set_option maxHeartbeats 2000000 in
theorem ints_no (a b : Option Addr) (na nb ca cb : Nat) (la lb : List Int) (w : World) (h1 : HoldsN w a na ca la) (h2 : HoldsN w b nb cb lb) (hm : na ≤ 140737488355328) (hne : la ≠ lb) :
    Calls Try.prog 62 #[.slice a na ca, .slice b nb cb] w fun e w' => e = .returned (.bool false) ∧ Below w.heap.size w w' := by
  have HN := hid hne
  by_cases hn : na = nb
  · subst hn
    have hp : 0 < na := by
      rcases Nat.eq_zero_or_pos na with e | e
      · exfalso
        apply hne
        rw [List.length_eq_zero_iff.1 (h1.1.trans e), List.length_eq_zero_iff.1 (h2.1.trans e)]
      · exact e
    have L1 := hid h1.1
    have L2 := hid h2.1
    have hca := h1.2.1
    have hcb := h2.2.1
    obtain ⟨b1, o1, rfl, R1⟩ := h1.rowN hp
    obtain ⟨b2, o2, rfl, R2⟩ := h2.rowN hp
    have HR1 := hid R1
    have HR2 := hid R2
    clear R1 R2 h1 h2 hne
    go_enter Try.func62, Try.ntmps62
    go_wp2_with fail
    go_loopw [13] (fun i wr => ∃ k : Nat, k ≤ na ∧ i = .int .i64 k ∧ Below w.heap.size w wr ∧ Hid (∀ j, j < k → la[j]?.getD 0 = lb[j]?.getD 0)) (fun i _ => na - (intOf i).toNat)
    case atStart => exact ⟨0, by omega, rfl, Below.refl _ _, fun j hj => by omega⟩
    case round =>
      obtain ⟨k, hk, rfl, hB, hEq⟩ := hrel
      by_cases hlt : k < na
      · have c := keepb hB (HR1.out k hlt)
        have d := keepb hB (HR2.out k hlt)
        have ka : (0 : Int) ≤ (k : Int) := by omega
        have kb : (k : Int) < (na : Int) := by omega
        by_cases hx : la[k]?.getD 0 = lb[k]?.getD 0
        · have HQ : Hid (∀ j, j < k + 1 → la[j]?.getD 0 = lb[j]?.getD 0) := fun j hj => by
            rcases Nat.lt_or_ge j k with h | h
            · exact hEq.out j h
            · obtain rfl : j = k := by omega
              exact hx
          rw [hx] at c
          generalize lb[k]?.getD 0 = x at *
          clear hx
          have tx : (x != x) = false := by simp
          go_wp2_with fail
          go_quiet (fail)
          go_wp2
          go_roundw
          case rel => exact ⟨k + 1, by omega, by go_num, below_drewN hB _, HQ⟩
          case measure => simp [intOf]; omega
        · have tx : (la[k]?.getD 0 != lb[k]?.getD 0) = true := by simpa using hx
          generalize la[k]?.getD 0 = x at *
          generalize lb[k]?.getD 0 = y at *
          clear hx
          go_wp2_with fail
          go_quiet (fail)
          go_wp2
          go_ret
          exact ⟨rfl, below_drewN hB _⟩
      · exfalso
        apply HN.out
        apply List.ext_getElem (by rw [L1.out, L2.out])
        intro j h1 h2
        have := hEq.out j (by rw [L1.out] at h1; omega)
        rw [List.getElem?_eq_getElem h1, List.getElem?_eq_getElem h2] at this
        exact this
  · have tn : ((na : Int) != (nb : Int)) = true := by
      have : ¬ (na : Int) = (nb : Int) := by omega
      simpa using this
    clear h1 h2 hne
    go_enter Try.func62, Try.ntmps62
    go_wp2
    go_ret
    exact ⟨rfl, Below.refl _ _⟩

set_option maxRecDepth 100000 in
set_option maxHeartbeats 8000000 in
theorem stask_no (t1 t2 c m wk st t1' t2' c' m' wk' st' : Int) (ta tb : Option Addr) (tn tm ca cb : Nat) (tk tk' : List Int) (w : World) (h1 : HoldsN w ta tn ca tk) (h2 : HoldsN w tb tm cb tk') (hm : tn ≤ 140737488355328) (hne : ¬ (t1 = t1' ∧ t2 = t2' ∧ c = c' ∧ m = m' ∧ wk = wk' ∧ st = st' ∧ tk = tk')) :
    Calls Try.prog 38 #[.agg #[.int .i64 t1, .int .i64 t2, .int .i64 c, .int .i64 m, .int .i64 wk, .slice ta tn ca, .int .i64 st], .agg #[.int .i64 t1', .int .i64 t2', .int .i64 c', .int .i64 m', .int .i64 wk', .slice tb tm cb, .int .i64 st']] w fun e w' => e = .returned (.bool false) ∧ Below w.heap.size w w' := by
  by_cases g_t1 : t1 = t1'
  case neg =>
    have tt : (t1 == t1') = false := by simpa using g_t1
    clear g_t1
    go_enter Try.func38, Try.ntmps38
    clear h1 h2 hne
    go_wp2
    go_ret
    exact ⟨rfl, (by repeat (first | exact Below.refl _ _ | assumption | refine Below.alloc ?_ (by simp <;> omega) _ | refine Below.setCell ?_ (by simp <;> omega) _ | refine Below.drew ?_ | refine below_drewN ?_ _))⟩
  subst g_t1
  by_cases g_t2 : t2 = t2'
  case neg =>
    have tt : (t2 == t2') = false := by simpa using g_t2
    clear g_t2
    go_enter Try.func38, Try.ntmps38
    clear h1 h2 hne
    go_wp2
    go_ret
    exact ⟨rfl, (by repeat (first | exact Below.refl _ _ | assumption | refine Below.alloc ?_ (by simp <;> omega) _ | refine Below.setCell ?_ (by simp <;> omega) _ | refine Below.drew ?_ | refine below_drewN ?_ _))⟩
  subst g_t2
  by_cases g_v : c = c' ∧ m = m'
  case neg =>
    have tt := eq_vec_no c m c' m' g_v
    clear g_v
    go_enter Try.func38, Try.ntmps38
    clear h1 h2 hne
    go_wp2
    go_ret
    exact ⟨rfl, (by repeat (first | exact Below.refl _ _ | assumption | refine Below.alloc ?_ (by simp <;> omega) _ | refine Below.setCell ?_ (by simp <;> omega) _ | refine Below.drew ?_ | refine below_drewN ?_ _))⟩
  obtain ⟨g1, g2⟩ := g_v
  subst g1 g2
  have EV := eq_vec c m
  by_cases g_wk : wk = wk'
  case neg =>
    have tt : (wk == wk') = false := by simpa using g_wk
    clear g_wk
    go_enter Try.func38, Try.ntmps38
    clear h1 h2 hne
    go_wp2
    go_ret
    exact ⟨rfl, (by repeat (first | exact Below.refl _ _ | assumption | refine Below.alloc ?_ (by simp <;> omega) _ | refine Below.setCell ?_ (by simp <;> omega) _ | refine Below.drew ?_ | refine below_drewN ?_ _))⟩
  subst g_wk
  by_cases g_st : st = st'
  case neg =>
    have tt : (st == st') = false := by simpa using g_st
    clear g_st
    go_enter Try.func38, Try.ntmps38
    clear h1 h2 hne
    go_wp2
    go_ret
    exact ⟨rfl, (by repeat (first | exact Below.refl _ _ | assumption | refine Below.alloc ?_ (by simp <;> omega) _ | refine Below.setCell ?_ (by simp <;> omega) _ | refine Below.drew ?_ | refine below_drewN ?_ _))⟩
  subst g_st
  have hl : tk ≠ tk' := fun e => hne ⟨rfl, rfl, rfl, rfl, rfl, rfl, e⟩
  go_enter Try.func38, Try.ntmps38
  go_upto_region 1 with fail
  have B0 := ((Below.refl w.heap.size w).alloc (Nat.le_refl _) (.cells #[.int .i64 t1, .int .i64 t2, .int .i64 c, .int .i64 m, .int .i64 wk, .slice ta tn ca, .int .i64 st] 30)).alloc (by simp) (.cells #[.int .i64 t1, .int .i64 t2, .int .i64 c, .int .i64 m, .int .i64 wk, .slice tb tm cb, .int .i64 st] 30)
  have C := hid (ints_no ta tb tn tm ca cb tk tk' _ (h1.below B0) (h2.below B0) hm hl)
  clear h1 h2 hne hl
  go_wp2_with fail
  with_reducible refine C.out.mono ?_
  rintro e W1 ⟨rfl, b1⟩
  clear C
  go_wp2_with fail
  go_ret
  exact ⟨rfl, B0.trans (b1.mono (by simp <;> omega))⟩
end Go.Proofs.Ytkjglpgjflkmbaa

namespace Go.Proofs.Ytkjglpgjflkmbaa
open Go.RowKit Go.Deep Go.Maps
set_option linter.unusedVariables false
set_option linter.unusedSimpArgs false

set_option maxRecDepth 100000 in
set_option maxHeartbeats 16000000 in
theorem sent_no (gp cl sq kd ci ir bt si q1 q2 q3 q4 q5 q6 q7 n1 n2 n3 n4 n5 t1 t2 c m wk st gp' cl' sq' kd' ci' ir' bt' si' q1' q2' q3' q4' q5' q6' q7' n1' n2' n3' n4' n5' t1' t2' c' m' wk' st' : Int) (ta tb : Option Addr) (tn tm ca cb : Nat) (tk tk' : List Int) (w : World) (h1 : HoldsN w ta tn ca tk) (h2 : HoldsN w tb tm cb tk') (hm : tn ≤ 140737488355328)
    (hne : ¬ (gp = gp' ∧ cl = cl' ∧ sq = sq' ∧ kd = kd' ∧ ci = ci' ∧ ir = ir' ∧ bt = bt' ∧ si = si' ∧ q1 = q1' ∧ q2 = q2' ∧ q3 = q3' ∧ q4 = q4' ∧ q5 = q5' ∧ q6 = q6' ∧ q7 = q7' ∧ n1 = n1' ∧ n2 = n2' ∧ n3 = n3' ∧ n4 = n4' ∧ n5 = n5' ∧ t1 = t1' ∧ t2 = t2' ∧ c = c' ∧ m = m' ∧ wk = wk' ∧ st = st' ∧ tk = tk')) :
    Calls Try.prog 15 #[.agg #[.int .i64 gp, .int .i64 cl, .int .i64 sq, .int .i64 kd, .int .i64 ci, .int .i64 ir, .int .i64 bt, .int .i64 si, .int .i64 q1, .int .i64 q2, .int .i64 q3, .int .i64 q4, .int .i64 q5, .int .i64 q6, .int .i64 q7, .int .i64 n1, .int .i64 n2, .int .i64 n3, .int .i64 n4, .int .i64 n5, .int .i64 t1, .int .i64 t2, .int .i64 c, .int .i64 m, .int .i64 wk, .slice ta tn ca, .int .i64 st], .agg #[.int .i64 gp', .int .i64 cl', .int .i64 sq', .int .i64 kd', .int .i64 ci', .int .i64 ir', .int .i64 bt', .int .i64 si', .int .i64 q1', .int .i64 q2', .int .i64 q3', .int .i64 q4', .int .i64 q5', .int .i64 q6', .int .i64 q7', .int .i64 n1', .int .i64 n2', .int .i64 n3', .int .i64 n4', .int .i64 n5', .int .i64 t1', .int .i64 t2', .int .i64 c', .int .i64 m', .int .i64 wk', .slice tb tm cb, .int .i64 st']] w fun e w' => e = .returned (.bool false) ∧ Below w.heap.size w w' := by
  have HNE := hid hne
  clear hne
  go_enter Try.func15, Try.ntmps15
  go_upto_region 1 with fail
  have B0 := hid (((Below.refl w.heap.size w).alloc (Nat.le_refl _) (.cells #[.int .i64 gp, .int .i64 cl, .int .i64 sq, .int .i64 kd, .int .i64 ci, .int .i64 ir, .int .i64 bt, .int .i64 si, .int .i64 q1, .int .i64 q2, .int .i64 q3, .int .i64 q4, .int .i64 q5, .int .i64 q6, .int .i64 q7, .int .i64 n1, .int .i64 n2, .int .i64 n3, .int .i64 n4, .int .i64 n5, .int .i64 t1, .int .i64 t2, .int .i64 c, .int .i64 m, .int .i64 wk, .slice ta tn ca, .int .i64 st] 34)).alloc (by simp) (.cells #[.int .i64 gp', .int .i64 cl', .int .i64 sq', .int .i64 kd', .int .i64 ci', .int .i64 ir', .int .i64 bt', .int .i64 si', .int .i64 q1', .int .i64 q2', .int .i64 q3', .int .i64 q4', .int .i64 q5', .int .i64 q6', .int .i64 q7', .int .i64 n1', .int .i64 n2', .int .i64 n3', .int .i64 n4', .int .i64 n5', .int .i64 t1', .int .i64 t2', .int .i64 c', .int .i64 m', .int .i64 wk', .slice tb tm cb, .int .i64 st'] 34))
  have X1 := hid ((Blk.alloc w #[.int .i64 gp, .int .i64 cl, .int .i64 sq, .int .i64 kd, .int .i64 ci, .int .i64 ir, .int .i64 bt, .int .i64 si, .int .i64 q1, .int .i64 q2, .int .i64 q3, .int .i64 q4, .int .i64 q5, .int .i64 q6, .int .i64 q7, .int .i64 n1, .int .i64 n2, .int .i64 n3, .int .i64 n4, .int .i64 n5, .int .i64 t1, .int .i64 t2, .int .i64 c, .int .i64 m, .int .i64 wk, .slice ta tn ca, .int .i64 st] (34)).below ((Below.refl _ _).alloc (Nat.le_refl _) (.cells #[.int .i64 gp', .int .i64 cl', .int .i64 sq', .int .i64 kd', .int .i64 ci', .int .i64 ir', .int .i64 bt', .int .i64 si', .int .i64 q1', .int .i64 q2', .int .i64 q3', .int .i64 q4', .int .i64 q5', .int .i64 q6', .int .i64 q7', .int .i64 n1', .int .i64 n2', .int .i64 n3', .int .i64 n4', .int .i64 n5', .int .i64 t1', .int .i64 t2', .int .i64 c', .int .i64 m', .int .i64 wk', .slice tb tm cb, .int .i64 st'] 34)))
  have X2 := hid (Blk.alloc (w.alloc (.cells #[.int .i64 gp, .int .i64 cl, .int .i64 sq, .int .i64 kd, .int .i64 ci, .int .i64 ir, .int .i64 bt, .int .i64 si, .int .i64 q1, .int .i64 q2, .int .i64 q3, .int .i64 q4, .int .i64 q5, .int .i64 q6, .int .i64 q7, .int .i64 n1, .int .i64 n2, .int .i64 n3, .int .i64 n4, .int .i64 n5, .int .i64 t1, .int .i64 t2, .int .i64 c, .int .i64 m, .int .i64 wk, .slice ta tn ca, .int .i64 st] 34)) #[.int .i64 gp', .int .i64 cl', .int .i64 sq', .int .i64 kd', .int .i64 ci', .int .i64 ir', .int .i64 bt', .int .i64 si', .int .i64 q1', .int .i64 q2', .int .i64 q3', .int .i64 q4', .int .i64 q5', .int .i64 q6', .int .i64 q7', .int .i64 n1', .int .i64 n2', .int .i64 n3', .int .i64 n4', .int .i64 n5', .int .i64 t1', .int .i64 t2', .int .i64 c', .int .i64 m', .int .i64 wk', .slice tb tm cb, .int .i64 st'] (34))
  have zs : (w.alloc (.cells #[.int .i64 gp, .int .i64 cl, .int .i64 sq, .int .i64 kd, .int .i64 ci, .int .i64 ir, .int .i64 bt, .int .i64 si, .int .i64 q1, .int .i64 q2, .int .i64 q3, .int .i64 q4, .int .i64 q5, .int .i64 q6, .int .i64 q7, .int .i64 n1, .int .i64 n2, .int .i64 n3, .int .i64 n4, .int .i64 n5, .int .i64 t1, .int .i64 t2, .int .i64 c, .int .i64 m, .int .i64 wk, .slice ta tn ca, .int .i64 st] 34)).heap.size = w.heap.size + 1 := by simp
  rw [zs] at X2
  have H1 := hid h1
  have H2 := hid h2
  clear h1 h2 zs
  generalize ((w.alloc (.cells #[.int .i64 gp, .int .i64 cl, .int .i64 sq, .int .i64 kd, .int .i64 ci, .int .i64 ir, .int .i64 bt, .int .i64 si, .int .i64 q1, .int .i64 q2, .int .i64 q3, .int .i64 q4, .int .i64 q5, .int .i64 q6, .int .i64 q7, .int .i64 n1, .int .i64 n2, .int .i64 n3, .int .i64 n4, .int .i64 n5, .int .i64 t1, .int .i64 t2, .int .i64 c, .int .i64 m, .int .i64 wk, .slice ta tn ca, .int .i64 st] 34)).alloc (.cells #[.int .i64 gp', .int .i64 cl', .int .i64 sq', .int .i64 kd', .int .i64 ci', .int .i64 ir', .int .i64 bt', .int .i64 si', .int .i64 q1', .int .i64 q2', .int .i64 q3', .int .i64 q4', .int .i64 q5', .int .i64 q6', .int .i64 q7', .int .i64 n1', .int .i64 n2', .int .i64 n3', .int .i64 n4', .int .i64 n5', .int .i64 t1', .int .i64 t2', .int .i64 c', .int .i64 m', .int .i64 wk', .slice tb tm cb, .int .i64 st'] 34)) = W0 at *
  go_cut [5, 6] from 7 to 10 (fun v5 v6 wx => ∃ C1 C2, v5 = .pointer (some ⟨C1, 0, none⟩) ∧ v6 = .pointer (some ⟨C2, 0, none⟩) ∧ Hid (Blk wx w.heap.size 34 #[.int .i64 gp, .int .i64 cl, .int .i64 sq, .int .i64 kd, .int .i64 ci, .int .i64 ir, .int .i64 bt, .int .i64 si, .int .i64 q1, .int .i64 q2, .int .i64 q3, .int .i64 q4, .int .i64 q5, .int .i64 q6, .int .i64 q7, .int .i64 n1, .int .i64 n2, .int .i64 n3, .int .i64 n4, .int .i64 n5, .int .i64 t1, .int .i64 t2, .int .i64 c, .int .i64 m, .int .i64 wk, .slice ta tn ca, .int .i64 st] ∧ Blk wx (w.heap.size + 1) 34 #[.int .i64 gp', .int .i64 cl', .int .i64 sq', .int .i64 kd', .int .i64 ci', .int .i64 ir', .int .i64 bt', .int .i64 si', .int .i64 q1', .int .i64 q2', .int .i64 q3', .int .i64 q4', .int .i64 q5', .int .i64 q6', .int .i64 q7', .int .i64 n1', .int .i64 n2', .int .i64 n3', .int .i64 n4', .int .i64 n5', .int .i64 t1', .int .i64 t2', .int .i64 c', .int .i64 m', .int .i64 wk', .slice tb tm cb, .int .i64 st'] ∧ Blk wx C1 32 #[.int .i64 kd, .int .i64 ci, .int .i64 ir, .int .i64 bt, .int .i64 si, .int .i64 q1, .int .i64 q2, .int .i64 q3, .int .i64 q4, .int .i64 q5, .int .i64 q6, .int .i64 q7, .int .i64 n1, .int .i64 n2, .int .i64 n3, .int .i64 n4, .int .i64 n5, .int .i64 t1, .int .i64 t2, .int .i64 c, .int .i64 m, .int .i64 wk, .slice ta tn ca, .int .i64 st] ∧ Blk wx C2 32 #[.int .i64 kd', .int .i64 ci', .int .i64 ir', .int .i64 bt', .int .i64 si', .int .i64 q1', .int .i64 q2', .int .i64 q3', .int .i64 q4', .int .i64 q5', .int .i64 q6', .int .i64 q7', .int .i64 n1', .int .i64 n2', .int .i64 n3', .int .i64 n4', .int .i64 n5', .int .i64 t1', .int .i64 t2', .int .i64 c', .int .i64 m', .int .i64 wk', .slice tb tm cb, .int .i64 st'] ∧ Below w.heap.size w wx))
  case first =>
    refine wp_region_held_drew (S := fun W => Blk W w.heap.size 34 #[.int .i64 gp, .int .i64 cl, .int .i64 sq, .int .i64 kd, .int .i64 ci, .int .i64 ir, .int .i64 bt, .int .i64 si, .int .i64 q1, .int .i64 q2, .int .i64 q3, .int .i64 q4, .int .i64 q5, .int .i64 q6, .int .i64 q7, .int .i64 n1, .int .i64 n2, .int .i64 n3, .int .i64 n4, .int .i64 n5, .int .i64 t1, .int .i64 t2, .int .i64 c, .int .i64 m, .int .i64 wk, .slice ta tn ca, .int .i64 st] ∧ Blk W (w.heap.size + 1) 34 #[.int .i64 gp', .int .i64 cl', .int .i64 sq', .int .i64 kd', .int .i64 ci', .int .i64 ir', .int .i64 bt', .int .i64 si', .int .i64 q1', .int .i64 q2', .int .i64 q3', .int .i64 q4', .int .i64 q5', .int .i64 q6', .int .i64 q7', .int .i64 n1', .int .i64 n2', .int .i64 n3', .int .i64 n4', .int .i64 n5', .int .i64 t1', .int .i64 t2', .int .i64 c', .int .i64 m', .int .i64 wk', .slice tb tm cb, .int .i64 st']) (by kernel_rfl) ⟨X1.out, X2.out⟩ (fun hHeld => ?_)
    have D1 : Hid (Blk W0.drew w.heap.size 34 #[.int .i64 gp, .int .i64 cl, .int .i64 sq, .int .i64 kd, .int .i64 ci, .int .i64 ir, .int .i64 bt, .int .i64 si, .int .i64 q1, .int .i64 q2, .int .i64 q3, .int .i64 q4, .int .i64 q5, .int .i64 q6, .int .i64 q7, .int .i64 n1, .int .i64 n2, .int .i64 n3, .int .i64 n4, .int .i64 n5, .int .i64 t1, .int .i64 t2, .int .i64 c, .int .i64 m, .int .i64 wk, .slice ta tn ca, .int .i64 st]) := X1.out
    have D2 : Hid (Blk W0.drew (w.heap.size + 1) 34 #[.int .i64 gp', .int .i64 cl', .int .i64 sq', .int .i64 kd', .int .i64 ci', .int .i64 ir', .int .i64 bt', .int .i64 si', .int .i64 q1', .int .i64 q2', .int .i64 q3', .int .i64 q4', .int .i64 q5', .int .i64 q6', .int .i64 q7', .int .i64 n1', .int .i64 n2', .int .i64 n3', .int .i64 n4', .int .i64 n5', .int .i64 t1', .int .i64 t2', .int .i64 c', .int .i64 m', .int .i64 wk', .slice tb tm cb, .int .i64 st']) := X2.out
    have BD := hid B0.out.drew
    clear X1 X2 B0
    generalize W0.drew = WD at *
    refine wpAnyH_take (i := 0) (v := .pointer (some ⟨w.heap.size, 3, none⟩)) rfl (by kernel_rfl) (by kernel_rfl) (by kernel_rfl) (fun _ _ _ h => h) (Or.inl ⟨by rfl, ?_⟩) (by assumption) ?_
    · (intro w hSw; (try dsimp only at hSw); go_simp)
    (try simp only [Act.put, List.getElem_toArray, List.getElem_cons_succ, List.getElem_cons_zero, List.setIfInBounds_toArray, List.set_cons_zero, List.set_cons_succ])
    refine wpAnyH_take (i := 1) (v := .agg #[.int .i64 kd, .int .i64 ci, .int .i64 ir, .int .i64 bt, .int .i64 si, .int .i64 q1, .int .i64 q2, .int .i64 q3, .int .i64 q4, .int .i64 q5, .int .i64 q6, .int .i64 q7, .int .i64 n1, .int .i64 n2, .int .i64 n3, .int .i64 n4, .int .i64 n5, .int .i64 t1, .int .i64 t2, .int .i64 c, .int .i64 m, .int .i64 wk, .slice ta tn ca, .int .i64 st]) rfl (by kernel_rfl) (by kernel_rfl) (by kernel_rfl) (fun _ _ _ h => h) (yieldsIf_load_mid (by rfl) 32 (.tmp 7) rfl w.heap.size 3 rfl (#[.int .i64 kd, .int .i64 ci, .int .i64 ir, .int .i64 bt, .int .i64 si, .int .i64 q1, .int .i64 q2, .int .i64 q3, .int .i64 q4, .int .i64 q5, .int .i64 q6, .int .i64 q7, .int .i64 n1, .int .i64 n2, .int .i64 n3, .int .i64 n4, .int .i64 n5, .int .i64 t1, .int .i64 t2, .int .i64 c, .int .i64 m, .int .i64 wk, .slice ta tn ca, .int .i64 st] : Array Value).toList _ (fun W hW => Box.mid hW.1.box 3 24 _ rfl) Try.underlying32 rfl sizeCmd) (by assumption) ?_
    (try simp only [Act.put, List.getElem_toArray, List.getElem_cons_succ, List.getElem_cons_zero, List.setIfInBounds_toArray, List.set_cons_zero, List.set_cons_succ])
    refine wpAnyH_take (i := 2) (v := .pointer (some ⟨w.heap.size + 1, 3, none⟩)) rfl (by kernel_rfl) (by kernel_rfl) (by kernel_rfl) (fun _ _ _ h => h) (Or.inl ⟨by rfl, ?_⟩) (by assumption) ?_
    · (intro w hSw; (try dsimp only at hSw); go_simp)
    (try simp only [Act.put, List.getElem_toArray, List.getElem_cons_succ, List.getElem_cons_zero, List.setIfInBounds_toArray, List.set_cons_zero, List.set_cons_succ])
    refine wpAnyH_take (i := 3) (v := .agg #[.int .i64 kd', .int .i64 ci', .int .i64 ir', .int .i64 bt', .int .i64 si', .int .i64 q1', .int .i64 q2', .int .i64 q3', .int .i64 q4', .int .i64 q5', .int .i64 q6', .int .i64 q7', .int .i64 n1', .int .i64 n2', .int .i64 n3', .int .i64 n4', .int .i64 n5', .int .i64 t1', .int .i64 t2', .int .i64 c', .int .i64 m', .int .i64 wk', .slice tb tm cb, .int .i64 st']) rfl (by kernel_rfl) (by kernel_rfl) (by kernel_rfl) (fun _ _ _ h => h) (yieldsIf_load_mid (by rfl) 32 (.tmp 9) rfl (w.heap.size + 1) 3 rfl (#[.int .i64 kd', .int .i64 ci', .int .i64 ir', .int .i64 bt', .int .i64 si', .int .i64 q1', .int .i64 q2', .int .i64 q3', .int .i64 q4', .int .i64 q5', .int .i64 q6', .int .i64 q7', .int .i64 n1', .int .i64 n2', .int .i64 n3', .int .i64 n4', .int .i64 n5', .int .i64 t1', .int .i64 t2', .int .i64 c', .int .i64 m', .int .i64 wk', .slice tb tm cb, .int .i64 st'] : Array Value).toList _ (fun W hW => Box.mid hW.2.box 3 24 _ rfl) Try.underlying32 rfl sizeCmd) (by assumption) ?_
    (try simp only [Act.put, List.getElem_toArray, List.getElem_cons_succ, List.getElem_cons_zero, List.setIfInBounds_toArray, List.set_cons_zero, List.set_cons_succ])
    refine wpAnyH_ready (rs := [4, 5]) (by kernel_rfl) (by simp) ?_
    refine AllReadyH.cons rfl (fun K hK => ?_) ?_
    · skip
      refine alloc_step rfl 32 cmd0 rfl (alloc_cmd _) ?_
      have b := (Below.refl WD.heap.size WD).alloc (Nat.le_refl _) (.cells cmd0 32)
      have E1WE := hid (D1.out.below b)
      have E2WE := hid (D2.out.below b)
      have NCA := hid (Blk.alloc WD cmd0 (32))
      have BWE := hid (BD.out.alloc BD.out.size (.cells cmd0 32))
      have LCA : Hid (w.heap.size < WD.heap.size ∧ w.heap.size + 1 < WD.heap.size) := ⟨D1.out.lt, D2.out.lt⟩
      clear b
      generalize WD.alloc (.cells cmd0 32) = WE at *
      generalize hca : WD.heap.size = CA at *
      have LA := hid NCA.out.lt
      refine hK.out _ _ ⟨E1WE.out, E2WE.out⟩ (fun hHeld => ?_)
      clear hK K
      (try simp only [Act.put, List.getElem_toArray, List.getElem_cons_succ, List.getElem_cons_zero, List.setIfInBounds_toArray, List.set_cons_zero, List.set_cons_succ])
      refine wpAnyH_ready (rs := [5]) (by kernel_rfl) (by simp) ?_
      refine AllReadyH.cons rfl (fun K hK => ?_) AllReadyH.nil
      refine alloc_step rfl 32 cmd0 rfl (alloc_cmd _) ?_
      have b := (Below.refl WE.heap.size WE).alloc (Nat.le_refl _) (.cells cmd0 32)
      have E1WF := hid (E1WE.out.below b)
      have E2WF := hid (E2WE.out.below b)
      replace NCA := hid (NCA.out.below b)
      have NCB := hid (Blk.alloc WE cmd0 (32))
      have BWF := hid (BWE.out.alloc BWE.out.size (.cells cmd0 32))
      have LCB : Hid (w.heap.size < WE.heap.size ∧ w.heap.size + 1 < WE.heap.size) := ⟨E1WE.out.lt, E2WE.out.lt⟩
      clear b
      generalize WE.alloc (.cells cmd0 32) = WF at *
      generalize hcb : WE.heap.size = CB at *
      refine hK.out _ _ ⟨E1WF.out, E2WF.out⟩ (fun hHeld => ?_)
      clear hK K
      (try simp only [Act.put, List.getElem_toArray, List.getElem_cons_succ, List.getElem_cons_zero, List.setIfInBounds_toArray, List.set_cons_zero, List.set_cons_succ])
      have NE : CA ≠ CB := Nat.ne_of_lt LA.out
      refine wpAnyH_ready (rs := [6]) (by kernel_rfl) (by simp) ?_
      refine AllReadyH.cons rfl (fun K hK => ?_) AllReadyH.nil
      refine storeRow_step rfl 32 (.tmp 5) (.tmp 8) rfl CA #[.int .i64 kd, .int .i64 ci, .int .i64 ir, .int .i64 bt, .int .i64 si, .int .i64 q1, .int .i64 q2, .int .i64 q3, .int .i64 q4, .int .i64 q5, .int .i64 q6, .int .i64 q7, .int .i64 n1, .int .i64 n2, .int .i64 n3, .int .i64 n4, .int .i64 n5, .int .i64 t1, .int .i64 t2, .int .i64 c, .int .i64 m, .int .i64 wk, .slice ta tn ca, .int .i64 st] rfl rfl 32 _ NCA.out sizeCmd rfl (by simp [Value.oneCell']) ?_
      refine hK.out _ _ ⟨E1WF.out.other (by have := LCA.out; have := LCB.out; omega), E2WF.out.other (by have := LCA.out; have := LCB.out; omega)⟩ (fun hHeld => ?_)
      clear hK K
      (try simp only [Act.put, List.getElem_toArray, List.getElem_cons_succ, List.getElem_cons_zero, List.setIfInBounds_toArray, List.set_cons_zero, List.set_cons_succ])
      refine wpAnyH_ready (rs := [7]) (by kernel_rfl) (by simp) ?_
      refine AllReadyH.cons rfl (fun K hK => ?_) AllReadyH.nil
      refine storeRow_step rfl 32 (.tmp 6) (.tmp 10) rfl CB #[.int .i64 kd', .int .i64 ci', .int .i64 ir', .int .i64 bt', .int .i64 si', .int .i64 q1', .int .i64 q2', .int .i64 q3', .int .i64 q4', .int .i64 q5', .int .i64 q6', .int .i64 q7', .int .i64 n1', .int .i64 n2', .int .i64 n3', .int .i64 n4', .int .i64 n5', .int .i64 t1', .int .i64 t2', .int .i64 c', .int .i64 m', .int .i64 wk', .slice tb tm cb, .int .i64 st'] rfl rfl 32 _ (NCB.out.other (by omega)) sizeCmd rfl (by simp [Value.oneCell']) ?_
      refine hK.out _ _ ⟨(E1WF.out.other (by have := LCA.out; have := LCB.out; omega)).other (by have := LCA.out; have := LCB.out; omega), (E2WF.out.other (by have := LCA.out; have := LCB.out; omega)).other (by have := LCA.out; have := LCB.out; omega)⟩ (fun hHeld => ?_)
      clear hK K
      (try simp only [Act.put, List.getElem_toArray, List.getElem_cons_succ, List.getElem_cons_zero, List.setIfInBounds_toArray, List.set_cons_zero, List.set_cons_succ])
      refine wpAnyH_done (by kernel_rfl) ?_ _
      have FIN : Hid (Blk ((WF.setRow CA #[.int .i64 kd, .int .i64 ci, .int .i64 ir, .int .i64 bt, .int .i64 si, .int .i64 q1, .int .i64 q2, .int .i64 q3, .int .i64 q4, .int .i64 q5, .int .i64 q6, .int .i64 q7, .int .i64 n1, .int .i64 n2, .int .i64 n3, .int .i64 n4, .int .i64 n5, .int .i64 t1, .int .i64 t2, .int .i64 c, .int .i64 m, .int .i64 wk, .slice ta tn ca, .int .i64 st]).setRow CB #[.int .i64 kd', .int .i64 ci', .int .i64 ir', .int .i64 bt', .int .i64 si', .int .i64 q1', .int .i64 q2', .int .i64 q3', .int .i64 q4', .int .i64 q5', .int .i64 q6', .int .i64 q7', .int .i64 n1', .int .i64 n2', .int .i64 n3', .int .i64 n4', .int .i64 n5', .int .i64 t1', .int .i64 t2', .int .i64 c', .int .i64 m', .int .i64 wk', .slice tb tm cb, .int .i64 st']) w.heap.size 34 #[.int .i64 gp, .int .i64 cl, .int .i64 sq, .int .i64 kd, .int .i64 ci, .int .i64 ir, .int .i64 bt, .int .i64 si, .int .i64 q1, .int .i64 q2, .int .i64 q3, .int .i64 q4, .int .i64 q5, .int .i64 q6, .int .i64 q7, .int .i64 n1, .int .i64 n2, .int .i64 n3, .int .i64 n4, .int .i64 n5, .int .i64 t1, .int .i64 t2, .int .i64 c, .int .i64 m, .int .i64 wk, .slice ta tn ca, .int .i64 st] ∧ Blk ((WF.setRow CA #[.int .i64 kd, .int .i64 ci, .int .i64 ir, .int .i64 bt, .int .i64 si, .int .i64 q1, .int .i64 q2, .int .i64 q3, .int .i64 q4, .int .i64 q5, .int .i64 q6, .int .i64 q7, .int .i64 n1, .int .i64 n2, .int .i64 n3, .int .i64 n4, .int .i64 n5, .int .i64 t1, .int .i64 t2, .int .i64 c, .int .i64 m, .int .i64 wk, .slice ta tn ca, .int .i64 st]).setRow CB #[.int .i64 kd', .int .i64 ci', .int .i64 ir', .int .i64 bt', .int .i64 si', .int .i64 q1', .int .i64 q2', .int .i64 q3', .int .i64 q4', .int .i64 q5', .int .i64 q6', .int .i64 q7', .int .i64 n1', .int .i64 n2', .int .i64 n3', .int .i64 n4', .int .i64 n5', .int .i64 t1', .int .i64 t2', .int .i64 c', .int .i64 m', .int .i64 wk', .slice tb tm cb, .int .i64 st']) (w.heap.size + 1) 34 #[.int .i64 gp', .int .i64 cl', .int .i64 sq', .int .i64 kd', .int .i64 ci', .int .i64 ir', .int .i64 bt', .int .i64 si', .int .i64 q1', .int .i64 q2', .int .i64 q3', .int .i64 q4', .int .i64 q5', .int .i64 q6', .int .i64 q7', .int .i64 n1', .int .i64 n2', .int .i64 n3', .int .i64 n4', .int .i64 n5', .int .i64 t1', .int .i64 t2', .int .i64 c', .int .i64 m', .int .i64 wk', .slice tb tm cb, .int .i64 st'] ∧ Blk ((WF.setRow CA #[.int .i64 kd, .int .i64 ci, .int .i64 ir, .int .i64 bt, .int .i64 si, .int .i64 q1, .int .i64 q2, .int .i64 q3, .int .i64 q4, .int .i64 q5, .int .i64 q6, .int .i64 q7, .int .i64 n1, .int .i64 n2, .int .i64 n3, .int .i64 n4, .int .i64 n5, .int .i64 t1, .int .i64 t2, .int .i64 c, .int .i64 m, .int .i64 wk, .slice ta tn ca, .int .i64 st]).setRow CB #[.int .i64 kd', .int .i64 ci', .int .i64 ir', .int .i64 bt', .int .i64 si', .int .i64 q1', .int .i64 q2', .int .i64 q3', .int .i64 q4', .int .i64 q5', .int .i64 q6', .int .i64 q7', .int .i64 n1', .int .i64 n2', .int .i64 n3', .int .i64 n4', .int .i64 n5', .int .i64 t1', .int .i64 t2', .int .i64 c', .int .i64 m', .int .i64 wk', .slice tb tm cb, .int .i64 st']) CA 32 #[.int .i64 kd, .int .i64 ci, .int .i64 ir, .int .i64 bt, .int .i64 si, .int .i64 q1, .int .i64 q2, .int .i64 q3, .int .i64 q4, .int .i64 q5, .int .i64 q6, .int .i64 q7, .int .i64 n1, .int .i64 n2, .int .i64 n3, .int .i64 n4, .int .i64 n5, .int .i64 t1, .int .i64 t2, .int .i64 c, .int .i64 m, .int .i64 wk, .slice ta tn ca, .int .i64 st] ∧ Blk ((WF.setRow CA #[.int .i64 kd, .int .i64 ci, .int .i64 ir, .int .i64 bt, .int .i64 si, .int .i64 q1, .int .i64 q2, .int .i64 q3, .int .i64 q4, .int .i64 q5, .int .i64 q6, .int .i64 q7, .int .i64 n1, .int .i64 n2, .int .i64 n3, .int .i64 n4, .int .i64 n5, .int .i64 t1, .int .i64 t2, .int .i64 c, .int .i64 m, .int .i64 wk, .slice ta tn ca, .int .i64 st]).setRow CB #[.int .i64 kd', .int .i64 ci', .int .i64 ir', .int .i64 bt', .int .i64 si', .int .i64 q1', .int .i64 q2', .int .i64 q3', .int .i64 q4', .int .i64 q5', .int .i64 q6', .int .i64 q7', .int .i64 n1', .int .i64 n2', .int .i64 n3', .int .i64 n4', .int .i64 n5', .int .i64 t1', .int .i64 t2', .int .i64 c', .int .i64 m', .int .i64 wk', .slice tb tm cb, .int .i64 st']) CB 32 #[.int .i64 kd', .int .i64 ci', .int .i64 ir', .int .i64 bt', .int .i64 si', .int .i64 q1', .int .i64 q2', .int .i64 q3', .int .i64 q4', .int .i64 q5', .int .i64 q6', .int .i64 q7', .int .i64 n1', .int .i64 n2', .int .i64 n3', .int .i64 n4', .int .i64 n5', .int .i64 t1', .int .i64 t2', .int .i64 c', .int .i64 m', .int .i64 wk', .slice tb tm cb, .int .i64 st'] ∧ Below w.heap.size w ((WF.setRow CA #[.int .i64 kd, .int .i64 ci, .int .i64 ir, .int .i64 bt, .int .i64 si, .int .i64 q1, .int .i64 q2, .int .i64 q3, .int .i64 q4, .int .i64 q5, .int .i64 q6, .int .i64 q7, .int .i64 n1, .int .i64 n2, .int .i64 n3, .int .i64 n4, .int .i64 n5, .int .i64 t1, .int .i64 t2, .int .i64 c, .int .i64 m, .int .i64 wk, .slice ta tn ca, .int .i64 st]).setRow CB #[.int .i64 kd', .int .i64 ci', .int .i64 ir', .int .i64 bt', .int .i64 si', .int .i64 q1', .int .i64 q2', .int .i64 q3', .int .i64 q4', .int .i64 q5', .int .i64 q6', .int .i64 q7', .int .i64 n1', .int .i64 n2', .int .i64 n3', .int .i64 n4', .int .i64 n5', .int .i64 t1', .int .i64 t2', .int .i64 c', .int .i64 m', .int .i64 wk', .slice tb tm cb, .int .i64 st'])) := ⟨hHeld.1, hHeld.2, (NCA.out.row _).other (by omega), (NCB.out.other (by omega)).row _, setRow_below (setRow_below BWF.out (by have := LCA.out; have := LCB.out; omega)) (by have := LCA.out; have := LCB.out; omega)⟩
      clear hHeld
      go_wp2_with fail
      go_meet
      exact ⟨CA, CB, rfl, rfl, FIN⟩
    refine AllReadyH.cons rfl (fun K hK => ?_) AllReadyH.nil
    refine alloc_step rfl 32 cmd0 rfl (alloc_cmd _) ?_
    have b := (Below.refl WD.heap.size WD).alloc (Nat.le_refl _) (.cells cmd0 32)
    have E1WE := hid (D1.out.below b)
    have E2WE := hid (D2.out.below b)
    have NCA := hid (Blk.alloc WD cmd0 (32))
    have BWE := hid (BD.out.alloc BD.out.size (.cells cmd0 32))
    have LCA : Hid (w.heap.size < WD.heap.size ∧ w.heap.size + 1 < WD.heap.size) := ⟨D1.out.lt, D2.out.lt⟩
    clear b
    generalize WD.alloc (.cells cmd0 32) = WE at *
    generalize hca : WD.heap.size = CA at *
    have LA := hid NCA.out.lt
    refine hK.out _ _ ⟨E1WE.out, E2WE.out⟩ (fun hHeld => ?_)
    clear hK K
    (try simp only [Act.put, List.getElem_toArray, List.getElem_cons_succ, List.getElem_cons_zero, List.setIfInBounds_toArray, List.set_cons_zero, List.set_cons_succ])
    refine wpAnyH_ready (rs := [4]) (by kernel_rfl) (by simp) ?_
    refine AllReadyH.cons rfl (fun K hK => ?_) AllReadyH.nil
    refine alloc_step rfl 32 cmd0 rfl (alloc_cmd _) ?_
    have b := (Below.refl WE.heap.size WE).alloc (Nat.le_refl _) (.cells cmd0 32)
    have E1WF := hid (E1WE.out.below b)
    have E2WF := hid (E2WE.out.below b)
    replace NCA := hid (NCA.out.below b)
    have NCB := hid (Blk.alloc WE cmd0 (32))
    have BWF := hid (BWE.out.alloc BWE.out.size (.cells cmd0 32))
    have LCB : Hid (w.heap.size < WE.heap.size ∧ w.heap.size + 1 < WE.heap.size) := ⟨E1WE.out.lt, E2WE.out.lt⟩
    clear b
    generalize WE.alloc (.cells cmd0 32) = WF at *
    generalize hcb : WE.heap.size = CB at *
    refine hK.out _ _ ⟨E1WF.out, E2WF.out⟩ (fun hHeld => ?_)
    clear hK K
    (try simp only [Act.put, List.getElem_toArray, List.getElem_cons_succ, List.getElem_cons_zero, List.setIfInBounds_toArray, List.set_cons_zero, List.set_cons_succ])
    have NE : CA ≠ CB := Nat.ne_of_lt LA.out
    refine wpAnyH_ready (rs := [6]) (by kernel_rfl) (by simp) ?_
    refine AllReadyH.cons rfl (fun K hK => ?_) AllReadyH.nil
    refine storeRow_step rfl 32 (.tmp 5) (.tmp 8) rfl CB #[.int .i64 kd, .int .i64 ci, .int .i64 ir, .int .i64 bt, .int .i64 si, .int .i64 q1, .int .i64 q2, .int .i64 q3, .int .i64 q4, .int .i64 q5, .int .i64 q6, .int .i64 q7, .int .i64 n1, .int .i64 n2, .int .i64 n3, .int .i64 n4, .int .i64 n5, .int .i64 t1, .int .i64 t2, .int .i64 c, .int .i64 m, .int .i64 wk, .slice ta tn ca, .int .i64 st] rfl rfl 32 _ NCB.out sizeCmd rfl (by simp [Value.oneCell']) ?_
    refine hK.out _ _ ⟨E1WF.out.other (by have := LCA.out; have := LCB.out; omega), E2WF.out.other (by have := LCA.out; have := LCB.out; omega)⟩ (fun hHeld => ?_)
    clear hK K
    (try simp only [Act.put, List.getElem_toArray, List.getElem_cons_succ, List.getElem_cons_zero, List.setIfInBounds_toArray, List.set_cons_zero, List.set_cons_succ])
    refine wpAnyH_ready (rs := [7]) (by kernel_rfl) (by simp) ?_
    refine AllReadyH.cons rfl (fun K hK => ?_) AllReadyH.nil
    refine storeRow_step rfl 32 (.tmp 6) (.tmp 10) rfl CA #[.int .i64 kd', .int .i64 ci', .int .i64 ir', .int .i64 bt', .int .i64 si', .int .i64 q1', .int .i64 q2', .int .i64 q3', .int .i64 q4', .int .i64 q5', .int .i64 q6', .int .i64 q7', .int .i64 n1', .int .i64 n2', .int .i64 n3', .int .i64 n4', .int .i64 n5', .int .i64 t1', .int .i64 t2', .int .i64 c', .int .i64 m', .int .i64 wk', .slice tb tm cb, .int .i64 st'] rfl rfl 32 _ (NCA.out.other (by omega)) sizeCmd rfl (by simp [Value.oneCell']) ?_
    refine hK.out _ _ ⟨(E1WF.out.other (by have := LCA.out; have := LCB.out; omega)).other (by have := LCA.out; have := LCB.out; omega), (E2WF.out.other (by have := LCA.out; have := LCB.out; omega)).other (by have := LCA.out; have := LCB.out; omega)⟩ (fun hHeld => ?_)
    clear hK K
    (try simp only [Act.put, List.getElem_toArray, List.getElem_cons_succ, List.getElem_cons_zero, List.setIfInBounds_toArray, List.set_cons_zero, List.set_cons_succ])
    refine wpAnyH_done (by kernel_rfl) ?_ _
    have FIN : Hid (Blk ((WF.setRow CB #[.int .i64 kd, .int .i64 ci, .int .i64 ir, .int .i64 bt, .int .i64 si, .int .i64 q1, .int .i64 q2, .int .i64 q3, .int .i64 q4, .int .i64 q5, .int .i64 q6, .int .i64 q7, .int .i64 n1, .int .i64 n2, .int .i64 n3, .int .i64 n4, .int .i64 n5, .int .i64 t1, .int .i64 t2, .int .i64 c, .int .i64 m, .int .i64 wk, .slice ta tn ca, .int .i64 st]).setRow CA #[.int .i64 kd', .int .i64 ci', .int .i64 ir', .int .i64 bt', .int .i64 si', .int .i64 q1', .int .i64 q2', .int .i64 q3', .int .i64 q4', .int .i64 q5', .int .i64 q6', .int .i64 q7', .int .i64 n1', .int .i64 n2', .int .i64 n3', .int .i64 n4', .int .i64 n5', .int .i64 t1', .int .i64 t2', .int .i64 c', .int .i64 m', .int .i64 wk', .slice tb tm cb, .int .i64 st']) w.heap.size 34 #[.int .i64 gp, .int .i64 cl, .int .i64 sq, .int .i64 kd, .int .i64 ci, .int .i64 ir, .int .i64 bt, .int .i64 si, .int .i64 q1, .int .i64 q2, .int .i64 q3, .int .i64 q4, .int .i64 q5, .int .i64 q6, .int .i64 q7, .int .i64 n1, .int .i64 n2, .int .i64 n3, .int .i64 n4, .int .i64 n5, .int .i64 t1, .int .i64 t2, .int .i64 c, .int .i64 m, .int .i64 wk, .slice ta tn ca, .int .i64 st] ∧ Blk ((WF.setRow CB #[.int .i64 kd, .int .i64 ci, .int .i64 ir, .int .i64 bt, .int .i64 si, .int .i64 q1, .int .i64 q2, .int .i64 q3, .int .i64 q4, .int .i64 q5, .int .i64 q6, .int .i64 q7, .int .i64 n1, .int .i64 n2, .int .i64 n3, .int .i64 n4, .int .i64 n5, .int .i64 t1, .int .i64 t2, .int .i64 c, .int .i64 m, .int .i64 wk, .slice ta tn ca, .int .i64 st]).setRow CA #[.int .i64 kd', .int .i64 ci', .int .i64 ir', .int .i64 bt', .int .i64 si', .int .i64 q1', .int .i64 q2', .int .i64 q3', .int .i64 q4', .int .i64 q5', .int .i64 q6', .int .i64 q7', .int .i64 n1', .int .i64 n2', .int .i64 n3', .int .i64 n4', .int .i64 n5', .int .i64 t1', .int .i64 t2', .int .i64 c', .int .i64 m', .int .i64 wk', .slice tb tm cb, .int .i64 st']) (w.heap.size + 1) 34 #[.int .i64 gp', .int .i64 cl', .int .i64 sq', .int .i64 kd', .int .i64 ci', .int .i64 ir', .int .i64 bt', .int .i64 si', .int .i64 q1', .int .i64 q2', .int .i64 q3', .int .i64 q4', .int .i64 q5', .int .i64 q6', .int .i64 q7', .int .i64 n1', .int .i64 n2', .int .i64 n3', .int .i64 n4', .int .i64 n5', .int .i64 t1', .int .i64 t2', .int .i64 c', .int .i64 m', .int .i64 wk', .slice tb tm cb, .int .i64 st'] ∧ Blk ((WF.setRow CB #[.int .i64 kd, .int .i64 ci, .int .i64 ir, .int .i64 bt, .int .i64 si, .int .i64 q1, .int .i64 q2, .int .i64 q3, .int .i64 q4, .int .i64 q5, .int .i64 q6, .int .i64 q7, .int .i64 n1, .int .i64 n2, .int .i64 n3, .int .i64 n4, .int .i64 n5, .int .i64 t1, .int .i64 t2, .int .i64 c, .int .i64 m, .int .i64 wk, .slice ta tn ca, .int .i64 st]).setRow CA #[.int .i64 kd', .int .i64 ci', .int .i64 ir', .int .i64 bt', .int .i64 si', .int .i64 q1', .int .i64 q2', .int .i64 q3', .int .i64 q4', .int .i64 q5', .int .i64 q6', .int .i64 q7', .int .i64 n1', .int .i64 n2', .int .i64 n3', .int .i64 n4', .int .i64 n5', .int .i64 t1', .int .i64 t2', .int .i64 c', .int .i64 m', .int .i64 wk', .slice tb tm cb, .int .i64 st']) CB 32 #[.int .i64 kd, .int .i64 ci, .int .i64 ir, .int .i64 bt, .int .i64 si, .int .i64 q1, .int .i64 q2, .int .i64 q3, .int .i64 q4, .int .i64 q5, .int .i64 q6, .int .i64 q7, .int .i64 n1, .int .i64 n2, .int .i64 n3, .int .i64 n4, .int .i64 n5, .int .i64 t1, .int .i64 t2, .int .i64 c, .int .i64 m, .int .i64 wk, .slice ta tn ca, .int .i64 st] ∧ Blk ((WF.setRow CB #[.int .i64 kd, .int .i64 ci, .int .i64 ir, .int .i64 bt, .int .i64 si, .int .i64 q1, .int .i64 q2, .int .i64 q3, .int .i64 q4, .int .i64 q5, .int .i64 q6, .int .i64 q7, .int .i64 n1, .int .i64 n2, .int .i64 n3, .int .i64 n4, .int .i64 n5, .int .i64 t1, .int .i64 t2, .int .i64 c, .int .i64 m, .int .i64 wk, .slice ta tn ca, .int .i64 st]).setRow CA #[.int .i64 kd', .int .i64 ci', .int .i64 ir', .int .i64 bt', .int .i64 si', .int .i64 q1', .int .i64 q2', .int .i64 q3', .int .i64 q4', .int .i64 q5', .int .i64 q6', .int .i64 q7', .int .i64 n1', .int .i64 n2', .int .i64 n3', .int .i64 n4', .int .i64 n5', .int .i64 t1', .int .i64 t2', .int .i64 c', .int .i64 m', .int .i64 wk', .slice tb tm cb, .int .i64 st']) CA 32 #[.int .i64 kd', .int .i64 ci', .int .i64 ir', .int .i64 bt', .int .i64 si', .int .i64 q1', .int .i64 q2', .int .i64 q3', .int .i64 q4', .int .i64 q5', .int .i64 q6', .int .i64 q7', .int .i64 n1', .int .i64 n2', .int .i64 n3', .int .i64 n4', .int .i64 n5', .int .i64 t1', .int .i64 t2', .int .i64 c', .int .i64 m', .int .i64 wk', .slice tb tm cb, .int .i64 st'] ∧ Below w.heap.size w ((WF.setRow CB #[.int .i64 kd, .int .i64 ci, .int .i64 ir, .int .i64 bt, .int .i64 si, .int .i64 q1, .int .i64 q2, .int .i64 q3, .int .i64 q4, .int .i64 q5, .int .i64 q6, .int .i64 q7, .int .i64 n1, .int .i64 n2, .int .i64 n3, .int .i64 n4, .int .i64 n5, .int .i64 t1, .int .i64 t2, .int .i64 c, .int .i64 m, .int .i64 wk, .slice ta tn ca, .int .i64 st]).setRow CA #[.int .i64 kd', .int .i64 ci', .int .i64 ir', .int .i64 bt', .int .i64 si', .int .i64 q1', .int .i64 q2', .int .i64 q3', .int .i64 q4', .int .i64 q5', .int .i64 q6', .int .i64 q7', .int .i64 n1', .int .i64 n2', .int .i64 n3', .int .i64 n4', .int .i64 n5', .int .i64 t1', .int .i64 t2', .int .i64 c', .int .i64 m', .int .i64 wk', .slice tb tm cb, .int .i64 st'])) := ⟨hHeld.1, hHeld.2, (NCB.out.row _).other (by omega), (NCA.out.other (by omega)).row _, setRow_below (setRow_below BWF.out (by have := LCA.out; have := LCB.out; omega)) (by have := LCA.out; have := LCB.out; omega)⟩
    clear hHeld
    go_wp2_with fail
    go_meet
    exact ⟨CB, CA, rfl, rfl, FIN⟩
  case rest =>
    obtain ⟨C1, C2, rfl, rfl, hh⟩ := hcut
    have Z1 := hid hh.out.1
    have Z2 := hid hh.out.2.1
    have Z3 := hid hh.out.2.2.1
    have Z4 := hid hh.out.2.2.2.1
    have B1 := hid hh.out.2.2.2.2
    by_cases g_gp : gp = gp'
    case neg =>
      have tt : (gp == gp') = false := by simpa using g_gp
      clear g_gp
      have a0 := Z1.out.box 0 (.int .i64 gp) rfl
      have b0 := Z2.out.box 0 (.int .i64 gp') rfl
      clear hh X1 X2 B0 H1 H2
      go_wp2
      go_ret
      exact ⟨rfl, B1.out⟩
    subst g_gp
    by_cases g_cl : cl = cl'
    case neg =>
      have tt : (cl == cl') = false := by simpa using g_cl
      clear g_cl
      have a0 := Z1.out.box 0 (.int .i64 gp) rfl
      have b0 := Z2.out.box 0 (.int .i64 gp) rfl
      have a1 := Z1.out.box 1 (.int .i64 cl) rfl
      have b1 := Z2.out.box 1 (.int .i64 cl') rfl
      clear hh X1 X2 B0 H1 H2
      go_wp2
      go_ret
      exact ⟨rfl, B1.out⟩
    subst g_cl
    by_cases g_sq : sq = sq'
    case neg =>
      have tt : (sq == sq') = false := by simpa using g_sq
      clear g_sq
      have a0 := Z1.out.box 0 (.int .i64 gp) rfl
      have b0 := Z2.out.box 0 (.int .i64 gp) rfl
      have a1 := Z1.out.box 1 (.int .i64 cl) rfl
      have b1 := Z2.out.box 1 (.int .i64 cl) rfl
      have a2 := Z1.out.box 2 (.int .i64 sq) rfl
      have b2 := Z2.out.box 2 (.int .i64 sq') rfl
      clear hh X1 X2 B0 H1 H2
      go_wp2
      go_ret
      exact ⟨rfl, B1.out⟩
    subst g_sq
    by_cases g_kd : kd = kd'
    case neg =>
      have tt : (kd == kd') = false := by simpa using g_kd
      clear g_kd
      have a0 := Z1.out.box 0 (.int .i64 gp) rfl
      have b0 := Z2.out.box 0 (.int .i64 gp) rfl
      have a1 := Z1.out.box 1 (.int .i64 cl) rfl
      have b1 := Z2.out.box 1 (.int .i64 cl) rfl
      have a2 := Z1.out.box 2 (.int .i64 sq) rfl
      have b2 := Z2.out.box 2 (.int .i64 sq) rfl
      have c0 := Z3.out.box 0 (.int .i64 kd) rfl
      have d0 := Z4.out.box 0 (.int .i64 kd') rfl
      clear hh X1 X2 B0 H1 H2
      go_wp2
      go_ret
      exact ⟨rfl, B1.out⟩
    subst g_kd
    by_cases g_ci : ci = ci'
    case neg =>
      have tt : (ci == ci') = false := by simpa using g_ci
      clear g_ci
      have a0 := Z1.out.box 0 (.int .i64 gp) rfl
      have b0 := Z2.out.box 0 (.int .i64 gp) rfl
      have a1 := Z1.out.box 1 (.int .i64 cl) rfl
      have b1 := Z2.out.box 1 (.int .i64 cl) rfl
      have a2 := Z1.out.box 2 (.int .i64 sq) rfl
      have b2 := Z2.out.box 2 (.int .i64 sq) rfl
      have c0 := Z3.out.box 0 (.int .i64 kd) rfl
      have d0 := Z4.out.box 0 (.int .i64 kd) rfl
      have c1 := Z3.out.box 1 (.int .i64 ci) rfl
      have d1 := Z4.out.box 1 (.int .i64 ci') rfl
      clear hh X1 X2 B0 H1 H2
      go_wp2
      go_ret
      exact ⟨rfl, B1.out⟩
    subst g_ci
    by_cases g_ir : ir = ir'
    case neg =>
      have tt : (ir == ir') = false := by simpa using g_ir
      clear g_ir
      have a0 := Z1.out.box 0 (.int .i64 gp) rfl
      have b0 := Z2.out.box 0 (.int .i64 gp) rfl
      have a1 := Z1.out.box 1 (.int .i64 cl) rfl
      have b1 := Z2.out.box 1 (.int .i64 cl) rfl
      have a2 := Z1.out.box 2 (.int .i64 sq) rfl
      have b2 := Z2.out.box 2 (.int .i64 sq) rfl
      have c0 := Z3.out.box 0 (.int .i64 kd) rfl
      have d0 := Z4.out.box 0 (.int .i64 kd) rfl
      have c1 := Z3.out.box 1 (.int .i64 ci) rfl
      have d1 := Z4.out.box 1 (.int .i64 ci) rfl
      have c2 := Z3.out.box 2 (.int .i64 ir) rfl
      have d2 := Z4.out.box 2 (.int .i64 ir') rfl
      clear hh X1 X2 B0 H1 H2
      go_wp2
      go_ret
      exact ⟨rfl, B1.out⟩
    subst g_ir
    by_cases g_bt : bt = bt'
    case neg =>
      have tt : (bt == bt') = false := by simpa using g_bt
      clear g_bt
      have a0 := Z1.out.box 0 (.int .i64 gp) rfl
      have b0 := Z2.out.box 0 (.int .i64 gp) rfl
      have a1 := Z1.out.box 1 (.int .i64 cl) rfl
      have b1 := Z2.out.box 1 (.int .i64 cl) rfl
      have a2 := Z1.out.box 2 (.int .i64 sq) rfl
      have b2 := Z2.out.box 2 (.int .i64 sq) rfl
      have c0 := Z3.out.box 0 (.int .i64 kd) rfl
      have d0 := Z4.out.box 0 (.int .i64 kd) rfl
      have c1 := Z3.out.box 1 (.int .i64 ci) rfl
      have d1 := Z4.out.box 1 (.int .i64 ci) rfl
      have c2 := Z3.out.box 2 (.int .i64 ir) rfl
      have d2 := Z4.out.box 2 (.int .i64 ir) rfl
      have c3 := Z3.out.box 3 (.int .i64 bt) rfl
      have d3 := Z4.out.box 3 (.int .i64 bt') rfl
      clear hh X1 X2 B0 H1 H2
      go_wp2
      go_ret
      exact ⟨rfl, B1.out⟩
    subst g_bt
    by_cases g_si : si = si'
    case neg =>
      have tt : (si == si') = false := by simpa using g_si
      clear g_si
      have a0 := Z1.out.box 0 (.int .i64 gp) rfl
      have b0 := Z2.out.box 0 (.int .i64 gp) rfl
      have a1 := Z1.out.box 1 (.int .i64 cl) rfl
      have b1 := Z2.out.box 1 (.int .i64 cl) rfl
      have a2 := Z1.out.box 2 (.int .i64 sq) rfl
      have b2 := Z2.out.box 2 (.int .i64 sq) rfl
      have c0 := Z3.out.box 0 (.int .i64 kd) rfl
      have d0 := Z4.out.box 0 (.int .i64 kd) rfl
      have c1 := Z3.out.box 1 (.int .i64 ci) rfl
      have d1 := Z4.out.box 1 (.int .i64 ci) rfl
      have c2 := Z3.out.box 2 (.int .i64 ir) rfl
      have d2 := Z4.out.box 2 (.int .i64 ir) rfl
      have c3 := Z3.out.box 3 (.int .i64 bt) rfl
      have d3 := Z4.out.box 3 (.int .i64 bt) rfl
      have c4 := Z3.out.box 4 (.int .i64 si) rfl
      have d4 := Z4.out.box 4 (.int .i64 si') rfl
      clear hh X1 X2 B0 H1 H2
      go_wp2
      go_ret
      exact ⟨rfl, B1.out⟩
    subst g_si
    by_cases g_q : q1 = q1' ∧ q2 = q2' ∧ q3 = q3' ∧ q4 = q4' ∧ q5 = q5' ∧ q6 = q6' ∧ q7 = q7'
    case neg =>
      have tt := eq_que_no q1 q2 q3 q4 q5 q6 q7 q1' q2' q3' q4' q5' q6' q7' g_q
      clear g_q
      have a0 := Z1.out.box 0 (.int .i64 gp) rfl
      have b0 := Z2.out.box 0 (.int .i64 gp) rfl
      have a1 := Z1.out.box 1 (.int .i64 cl) rfl
      have b1 := Z2.out.box 1 (.int .i64 cl) rfl
      have a2 := Z1.out.box 2 (.int .i64 sq) rfl
      have b2 := Z2.out.box 2 (.int .i64 sq) rfl
      have c0 := Z3.out.box 0 (.int .i64 kd) rfl
      have d0 := Z4.out.box 0 (.int .i64 kd) rfl
      have c1 := Z3.out.box 1 (.int .i64 ci) rfl
      have d1 := Z4.out.box 1 (.int .i64 ci) rfl
      have c2 := Z3.out.box 2 (.int .i64 ir) rfl
      have d2 := Z4.out.box 2 (.int .i64 ir) rfl
      have c3 := Z3.out.box 3 (.int .i64 bt) rfl
      have d3 := Z4.out.box 3 (.int .i64 bt) rfl
      have c4 := Z3.out.box 4 (.int .i64 si) rfl
      have d4 := Z4.out.box 4 (.int .i64 si) rfl
      have c5 := Z3.out.box 5 (.int .i64 q1) rfl
      have d5 := Z4.out.box 5 (.int .i64 q1') rfl
      have c6 := Z3.out.box 6 (.int .i64 q2) rfl
      have d6 := Z4.out.box 6 (.int .i64 q2') rfl
      have c7 := Z3.out.box 7 (.int .i64 q3) rfl
      have d7 := Z4.out.box 7 (.int .i64 q3') rfl
      have c8 := Z3.out.box 8 (.int .i64 q4) rfl
      have d8 := Z4.out.box 8 (.int .i64 q4') rfl
      have c9 := Z3.out.box 9 (.int .i64 q5) rfl
      have d9 := Z4.out.box 9 (.int .i64 q5') rfl
      have c10 := Z3.out.box 10 (.int .i64 q6) rfl
      have d10 := Z4.out.box 10 (.int .i64 q6') rfl
      have c11 := Z3.out.box 11 (.int .i64 q7) rfl
      have d11 := Z4.out.box 11 (.int .i64 q7') rfl
      clear hh X1 X2 B0 H1 H2
      go_wp2
      go_ret
      exact ⟨rfl, B1.out⟩
    obtain ⟨g0, g1, g2, g3, g4, g5, g6⟩ := g_q
    subst g0 g1 g2 g3 g4 g5 g6
    have EQ := eq_que q1 q2 q3 q4 q5 q6 q7
    by_cases g_n : n1 = n1' ∧ n2 = n2' ∧ n3 = n3' ∧ n4 = n4' ∧ n5 = n5'
    case neg =>
      have tt := eq_nod_no n1 n2 n3 n4 n5 n1' n2' n3' n4' n5' g_n
      clear g_n
      have a0 := Z1.out.box 0 (.int .i64 gp) rfl
      have b0 := Z2.out.box 0 (.int .i64 gp) rfl
      have a1 := Z1.out.box 1 (.int .i64 cl) rfl
      have b1 := Z2.out.box 1 (.int .i64 cl) rfl
      have a2 := Z1.out.box 2 (.int .i64 sq) rfl
      have b2 := Z2.out.box 2 (.int .i64 sq) rfl
      have c0 := Z3.out.box 0 (.int .i64 kd) rfl
      have d0 := Z4.out.box 0 (.int .i64 kd) rfl
      have c1 := Z3.out.box 1 (.int .i64 ci) rfl
      have d1 := Z4.out.box 1 (.int .i64 ci) rfl
      have c2 := Z3.out.box 2 (.int .i64 ir) rfl
      have d2 := Z4.out.box 2 (.int .i64 ir) rfl
      have c3 := Z3.out.box 3 (.int .i64 bt) rfl
      have d3 := Z4.out.box 3 (.int .i64 bt) rfl
      have c4 := Z3.out.box 4 (.int .i64 si) rfl
      have d4 := Z4.out.box 4 (.int .i64 si) rfl
      have c5 := Z3.out.box 5 (.int .i64 q1) rfl
      have d5 := Z4.out.box 5 (.int .i64 q1) rfl
      have c6 := Z3.out.box 6 (.int .i64 q2) rfl
      have d6 := Z4.out.box 6 (.int .i64 q2) rfl
      have c7 := Z3.out.box 7 (.int .i64 q3) rfl
      have d7 := Z4.out.box 7 (.int .i64 q3) rfl
      have c8 := Z3.out.box 8 (.int .i64 q4) rfl
      have d8 := Z4.out.box 8 (.int .i64 q4) rfl
      have c9 := Z3.out.box 9 (.int .i64 q5) rfl
      have d9 := Z4.out.box 9 (.int .i64 q5) rfl
      have c10 := Z3.out.box 10 (.int .i64 q6) rfl
      have d10 := Z4.out.box 10 (.int .i64 q6) rfl
      have c11 := Z3.out.box 11 (.int .i64 q7) rfl
      have d11 := Z4.out.box 11 (.int .i64 q7) rfl
      have c12 := Z3.out.box 12 (.int .i64 n1) rfl
      have d12 := Z4.out.box 12 (.int .i64 n1') rfl
      have c13 := Z3.out.box 13 (.int .i64 n2) rfl
      have d13 := Z4.out.box 13 (.int .i64 n2') rfl
      have c14 := Z3.out.box 14 (.int .i64 n3) rfl
      have d14 := Z4.out.box 14 (.int .i64 n3') rfl
      have c15 := Z3.out.box 15 (.int .i64 n4) rfl
      have d15 := Z4.out.box 15 (.int .i64 n4') rfl
      have c16 := Z3.out.box 16 (.int .i64 n5) rfl
      have d16 := Z4.out.box 16 (.int .i64 n5') rfl
      clear hh X1 X2 B0 H1 H2
      go_wp2
      go_ret
      exact ⟨rfl, B1.out⟩
    obtain ⟨g0, g1, g2, g3, g4⟩ := g_n
    subst g0 g1 g2 g3 g4
    have EN := eq_nod n1 n2 n3 n4 n5
    have CT := hid (stask_no t1 t2 c m wk st t1' t2' c' m' wk' st' ta tb tn tm ca cb tk tk' wc (H1.out.below B1.out) (H2.out.below B1.out) hm (fun hh => HNE.out (by obtain ⟨h1, h2, h3, h4, h5, h6, h7⟩ := hh; simp only [h1, h2, h3, h4, h5, h6, h7, and_self])))
    have a0 := Z1.out.box 0 (.int .i64 gp) rfl
    have b0 := Z2.out.box 0 (.int .i64 gp) rfl
    have a1 := Z1.out.box 1 (.int .i64 cl) rfl
    have b1 := Z2.out.box 1 (.int .i64 cl) rfl
    have a2 := Z1.out.box 2 (.int .i64 sq) rfl
    have b2 := Z2.out.box 2 (.int .i64 sq) rfl
    have c0 := Z3.out.box 0 (.int .i64 kd) rfl
    have d0 := Z4.out.box 0 (.int .i64 kd) rfl
    have c1 := Z3.out.box 1 (.int .i64 ci) rfl
    have d1 := Z4.out.box 1 (.int .i64 ci) rfl
    have c2 := Z3.out.box 2 (.int .i64 ir) rfl
    have d2 := Z4.out.box 2 (.int .i64 ir) rfl
    have c3 := Z3.out.box 3 (.int .i64 bt) rfl
    have d3 := Z4.out.box 3 (.int .i64 bt) rfl
    have c4 := Z3.out.box 4 (.int .i64 si) rfl
    have d4 := Z4.out.box 4 (.int .i64 si) rfl
    have c5 := Z3.out.box 5 (.int .i64 q1) rfl
    have d5 := Z4.out.box 5 (.int .i64 q1) rfl
    have c6 := Z3.out.box 6 (.int .i64 q2) rfl
    have d6 := Z4.out.box 6 (.int .i64 q2) rfl
    have c7 := Z3.out.box 7 (.int .i64 q3) rfl
    have d7 := Z4.out.box 7 (.int .i64 q3) rfl
    have c8 := Z3.out.box 8 (.int .i64 q4) rfl
    have d8 := Z4.out.box 8 (.int .i64 q4) rfl
    have c9 := Z3.out.box 9 (.int .i64 q5) rfl
    have d9 := Z4.out.box 9 (.int .i64 q5) rfl
    have c10 := Z3.out.box 10 (.int .i64 q6) rfl
    have d10 := Z4.out.box 10 (.int .i64 q6) rfl
    have c11 := Z3.out.box 11 (.int .i64 q7) rfl
    have d11 := Z4.out.box 11 (.int .i64 q7) rfl
    have c12 := Z3.out.box 12 (.int .i64 n1) rfl
    have d12 := Z4.out.box 12 (.int .i64 n1) rfl
    have c13 := Z3.out.box 13 (.int .i64 n2) rfl
    have d13 := Z4.out.box 13 (.int .i64 n2) rfl
    have c14 := Z3.out.box 14 (.int .i64 n3) rfl
    have d14 := Z4.out.box 14 (.int .i64 n3) rfl
    have c15 := Z3.out.box 15 (.int .i64 n4) rfl
    have d15 := Z4.out.box 15 (.int .i64 n4) rfl
    have c16 := Z3.out.box 16 (.int .i64 n5) rfl
    have d16 := Z4.out.box 16 (.int .i64 n5) rfl
    have c17 := Z3.out.box 17 (.int .i64 t1) rfl
    have d17 := Z4.out.box 17 (.int .i64 t1') rfl
    have c18 := Z3.out.box 18 (.int .i64 t2) rfl
    have d18 := Z4.out.box 18 (.int .i64 t2') rfl
    have c19 := Z3.out.box 19 (.int .i64 c) rfl
    have d19 := Z4.out.box 19 (.int .i64 c') rfl
    have c20 := Z3.out.box 20 (.int .i64 m) rfl
    have d20 := Z4.out.box 20 (.int .i64 m') rfl
    have c21 := Z3.out.box 21 (.int .i64 wk) rfl
    have d21 := Z4.out.box 21 (.int .i64 wk') rfl
    have c22 := Z3.out.box 22 (.slice ta tn ca) rfl
    have d22 := Z4.out.box 22 (.slice tb tm cb) rfl
    have c23 := Z3.out.box 23 (.int .i64 st) rfl
    have d23 := Z4.out.box 23 (.int .i64 st') rfl
    clear hh X1 X2 B0 H1 H2
    go_wp2_with fail
    with_reducible refine CT.out.mono ?_
    rintro e W1 ⟨rfl, b1⟩
    clear CT
    go_wp2_with fail
    go_ret
    exact ⟨rfl, B1.out.trans (b1.mono B1.out.size)⟩
end Go.Proofs.Ytkjglpgjflkmbaa
