/-
  Contracts of furlongref10: two tasks are alike.
  Contracts of furlongref10: two entries are alike.
  Contracts of law 10: the first calls.
-/
import Derived.Test.YthkbddnkcljjpaaMCX
import Derived.Test.YthkbddnkcljjpaaSE
import Derived.Laws.StructEq
import Derived.Test.YthkbddnkcljjpaaMCH
import Derived.Deep.CutBlock
namespace Go.Proofs.Ythkbddnkcljjpaa
open Go.RowKit Go.Deep Go.Maps
set_option linter.unusedVariables false
set_option linter.unusedSimpArgs false

theorem eq_vec (a b : Int) (w : World) : Sem.run Try.prog (binOp BinOp.eql 23 (.agg #[.int .i64 a, .int .i64 b]) (.agg #[.int .i64 a, .int .i64 b])) w = .ok (.bool true) w := by
  have hS : Try.prog.underlying 23 = some (.struct (Try.prog.fieldsOf 23)) := by kernel_rfl
  have hp : Try.prog.stoodInHeld 23 = false := by kernel_rfl
  have u2 := Try.underlying2
  have a2 := Try.isAgg2
  have z2 := Try.sizeOf2
  rw [run_eql_struct, show (10000 : Nat) = 9999 + 1 from rfl, run_equalIn_agg w 9999 23 _ _ hS hp]
  simp only [Program.fieldsOf, Try.underlying23]
  go_simp

set_option maxRecDepth 100000 in
set_option maxHeartbeats 4000000 in
theorem stask_any (t1 t2 c m wk : Int) (ta tb : Option Addr) (tn ca cb : Nat) (tk : List Int) (st : Int) (w : World) (h1 : HoldsN w ta tn ca tk) (h2 : HoldsN w tb tn cb tk) (hm : tn ≤ 140737488355328) :
    Calls Try.prog 38 #[.agg #[.int .i64 t1, .int .i64 t2, .int .i64 c, .int .i64 m, .int .i64 wk, .slice ta tn ca, .int .i64 st], .agg #[.int .i64 t1, .int .i64 t2, .int .i64 c, .int .i64 m, .int .i64 wk, .slice tb tn cb, .int .i64 st]] w fun e w' => e = .returned (.bool true) ∧ Below w.heap.size w w' := by
  have EV := eq_vec c m
  go_enter Try.func38, Try.ntmps38
  go_upto_region 1 with fail
  have B0 := ((Below.refl w.heap.size w).alloc (Nat.le_refl _) (.cells #[.int .i64 t1, .int .i64 t2, .int .i64 c, .int .i64 m, .int .i64 wk, .slice ta tn ca, .int .i64 st] 30)).alloc (by simp) (.cells #[.int .i64 t1, .int .i64 t2, .int .i64 c, .int .i64 m, .int .i64 wk, .slice tb tn cb, .int .i64 st] 30)
  have C := hid (ints_any ta tb tn ca cb tk _ (h1.below B0) (h2.below B0) hm)
  clear h1 h2
  go_wp2_with fail
  with_reducible refine C.out.mono ?_
  rintro e W1 ⟨rfl, b1⟩
  clear C
  go_wp2_with fail
  go_ret
  exact ⟨rfl, B0.trans (b1.mono (by simp <;> omega))⟩
end Go.Proofs.Ythkbddnkcljjpaa

namespace Go.Proofs.Ythkbddnkcljjpaa
open Go.RowKit Go.Deep Go.Maps
set_option linter.unusedVariables false
set_option linter.unusedSimpArgs false

theorem Blk.box {W : World} {Q t : Nat} {cs : Array Value} (h : Blk W Q t cs) : Box W Q cs := fun i x e => by
  have h' : W.heap[Q]? = some (.cells cs t (0, 0)) := h
  simp [World.cell?, h', e]
theorem eq_que (a b c d e f g : Int) (w : World) : Sem.run Try.prog (binOp BinOp.eql 25 (.agg #[.int .i64 a, .int .i64 b, .int .i64 c, .int .i64 d, .int .i64 e, .int .i64 f, .int .i64 g]) (.agg #[.int .i64 a, .int .i64 b, .int .i64 c, .int .i64 d, .int .i64 e, .int .i64 f, .int .i64 g])) w = .ok (.bool true) w := by
  have hS : Try.prog.underlying 25 = some (.struct (Try.prog.fieldsOf 25)) := by kernel_rfl
  have hp : Try.prog.stoodInHeld 25 = false := by kernel_rfl
  have hS2 : Try.prog.underlying 23 = some (.struct (Try.prog.fieldsOf 23)) := by kernel_rfl
  have hp2 : Try.prog.stoodInHeld 23 = false := by kernel_rfl
  have u3 := Try.underlying3
  have a3 := Try.isAgg3
  have z3 := Try.sizeOf3
  have u2 := Try.underlying2
  have a2 := Try.isAgg2
  have z2 := Try.sizeOf2
  have a24 := Try.isAgg23
  have z24 := Try.sizeOf23
  have e24 : ∀ (d : Nat) (x y : Int) (w : World), (Op.equalIn (d + 2) 23 (.agg #[.int .i64 x, .int .i64 y]) (.agg #[.int .i64 x, .int .i64 y])).run Try.prog w = .ok true w := fun d x y w => by
    rw [run_equalIn_agg w (d + 1) 23 _ _ hS2 hp2]
    simp only [Program.fieldsOf, Try.underlying23]
    go_simp
  rw [run_eql_struct, show (10000 : Nat) = 9999 + 1 from rfl, run_equalIn_agg w 9999 25 _ _ hS hp]
  simp only [Program.fieldsOf, Try.underlying25]
  go_simp
theorem eq_nod (a b c d e : Int) (w : World) : Sem.run Try.prog (binOp BinOp.eql 27 (.agg #[.int .i64 a, .int .i64 b, .int .i64 c, .int .i64 d, .int .i64 e]) (.agg #[.int .i64 a, .int .i64 b, .int .i64 c, .int .i64 d, .int .i64 e])) w = .ok (.bool true) w := by
  have hS : Try.prog.underlying 27 = some (.struct (Try.prog.fieldsOf 27)) := by kernel_rfl
  have hp : Try.prog.stoodInHeld 27 = false := by kernel_rfl
  have u3 := Try.underlying3
  have a3 := Try.isAgg3
  have z3 := Try.sizeOf3
  have u2 := Try.underlying2
  have a2 := Try.isAgg2
  have z2 := Try.sizeOf2
  rw [run_eql_struct, show (10000 : Nat) = 9999 + 1 from rfl, run_equalIn_agg w 9999 27 _ _ hS hp]
  simp only [Program.fieldsOf, Try.underlying27]
  go_simp
section
variable {ops : Array Oper} {o : Oper} {a : Act} {w : World} {Q : Exit → Act → World → Prop} {K : Act → World → Prop}
theorem alloc_step (hg : o.guard = none) (ty : TypeId) (zs : Array Value) (ho : o.op = .alloc ty) (he : (Instr.alloc ty true (.tuple #[])).run Try.prog w = .ok (.pointer (some ⟨w.heap.size, 0, none⟩)) (w.alloc (.cells zs ty)))
    (hK : K (a.put o.dst (.pointer (some ⟨w.heap.size, 0, none⟩))) (w.alloc (.cells zs ty))) : if Region.wanted o (yielded ops a.tmps) = true then Oper.wp Try.prog o a w K Q else K (a.put o.dst undef) w := by
  rw [if_pos (by simp [Region.wanted, hg])]
  unfold Oper.wp execOp
  simp only [ho, Sem.run_bind, Sem.run_pure, he, Result.andThen_ok]
  exact hK
end
set_option maxRecDepth 100000 in
set_option maxHeartbeats 8000000 in
theorem sent_any (gp cl sq kd ci ir bt si q1 q2 q3 q4 q5 q6 q7 n1 n2 n3 n4 n5 t1 t2 c m wk st : Int) (ta tb : Option Addr) (tn ca cb : Nat) (tk : List Int) (w : World) (h1 : HoldsN w ta tn ca tk) (h2 : HoldsN w tb tn cb tk) (hm : tn ≤ 140737488355328) :
    Calls Try.prog 15 #[.agg #[.int .i64 gp, .int .i64 cl, .int .i64 sq, .int .i64 kd, .int .i64 ci, .int .i64 ir, .int .i64 bt, .int .i64 si, .int .i64 q1, .int .i64 q2, .int .i64 q3, .int .i64 q4, .int .i64 q5, .int .i64 q6, .int .i64 q7, .int .i64 n1, .int .i64 n2, .int .i64 n3, .int .i64 n4, .int .i64 n5, .int .i64 t1, .int .i64 t2, .int .i64 c, .int .i64 m, .int .i64 wk, .slice ta tn ca, .int .i64 st], .agg #[.int .i64 gp, .int .i64 cl, .int .i64 sq, .int .i64 kd, .int .i64 ci, .int .i64 ir, .int .i64 bt, .int .i64 si, .int .i64 q1, .int .i64 q2, .int .i64 q3, .int .i64 q4, .int .i64 q5, .int .i64 q6, .int .i64 q7, .int .i64 n1, .int .i64 n2, .int .i64 n3, .int .i64 n4, .int .i64 n5, .int .i64 t1, .int .i64 t2, .int .i64 c, .int .i64 m, .int .i64 wk, .slice tb tn cb, .int .i64 st]] w fun e w' => e = .returned (.bool true) ∧ Below w.heap.size w w' := by
  have EQ := eq_que q1 q2 q3 q4 q5 q6 q7
  have EN := eq_nod n1 n2 n3 n4 n5
  have HS := hid (fun W (H1 : HoldsN W ta tn ca tk) (H2 : HoldsN W tb tn cb tk) => stask_any t1 t2 c m wk ta tb tn ca cb tk st W H1 H2 hm)
  go_enter Try.func15, Try.ntmps15
  go_upto_region 1 with fail
  have B0 := hid (((Below.refl w.heap.size w).alloc (Nat.le_refl _) (.cells #[.int .i64 gp, .int .i64 cl, .int .i64 sq, .int .i64 kd, .int .i64 ci, .int .i64 ir, .int .i64 bt, .int .i64 si, .int .i64 q1, .int .i64 q2, .int .i64 q3, .int .i64 q4, .int .i64 q5, .int .i64 q6, .int .i64 q7, .int .i64 n1, .int .i64 n2, .int .i64 n3, .int .i64 n4, .int .i64 n5, .int .i64 t1, .int .i64 t2, .int .i64 c, .int .i64 m, .int .i64 wk, .slice ta tn ca, .int .i64 st] 34)).alloc (by simp) (.cells #[.int .i64 gp, .int .i64 cl, .int .i64 sq, .int .i64 kd, .int .i64 ci, .int .i64 ir, .int .i64 bt, .int .i64 si, .int .i64 q1, .int .i64 q2, .int .i64 q3, .int .i64 q4, .int .i64 q5, .int .i64 q6, .int .i64 q7, .int .i64 n1, .int .i64 n2, .int .i64 n3, .int .i64 n4, .int .i64 n5, .int .i64 t1, .int .i64 t2, .int .i64 c, .int .i64 m, .int .i64 wk, .slice tb tn cb, .int .i64 st] 34))
  have X1 := hid ((Blk.alloc w #[.int .i64 gp, .int .i64 cl, .int .i64 sq, .int .i64 kd, .int .i64 ci, .int .i64 ir, .int .i64 bt, .int .i64 si, .int .i64 q1, .int .i64 q2, .int .i64 q3, .int .i64 q4, .int .i64 q5, .int .i64 q6, .int .i64 q7, .int .i64 n1, .int .i64 n2, .int .i64 n3, .int .i64 n4, .int .i64 n5, .int .i64 t1, .int .i64 t2, .int .i64 c, .int .i64 m, .int .i64 wk, .slice ta tn ca, .int .i64 st] (34)).below ((Below.refl _ _).alloc (Nat.le_refl _) (.cells #[.int .i64 gp, .int .i64 cl, .int .i64 sq, .int .i64 kd, .int .i64 ci, .int .i64 ir, .int .i64 bt, .int .i64 si, .int .i64 q1, .int .i64 q2, .int .i64 q3, .int .i64 q4, .int .i64 q5, .int .i64 q6, .int .i64 q7, .int .i64 n1, .int .i64 n2, .int .i64 n3, .int .i64 n4, .int .i64 n5, .int .i64 t1, .int .i64 t2, .int .i64 c, .int .i64 m, .int .i64 wk, .slice tb tn cb, .int .i64 st] 34)))
  have X2 := hid (Blk.alloc (w.alloc (.cells #[.int .i64 gp, .int .i64 cl, .int .i64 sq, .int .i64 kd, .int .i64 ci, .int .i64 ir, .int .i64 bt, .int .i64 si, .int .i64 q1, .int .i64 q2, .int .i64 q3, .int .i64 q4, .int .i64 q5, .int .i64 q6, .int .i64 q7, .int .i64 n1, .int .i64 n2, .int .i64 n3, .int .i64 n4, .int .i64 n5, .int .i64 t1, .int .i64 t2, .int .i64 c, .int .i64 m, .int .i64 wk, .slice ta tn ca, .int .i64 st] 34)) #[.int .i64 gp, .int .i64 cl, .int .i64 sq, .int .i64 kd, .int .i64 ci, .int .i64 ir, .int .i64 bt, .int .i64 si, .int .i64 q1, .int .i64 q2, .int .i64 q3, .int .i64 q4, .int .i64 q5, .int .i64 q6, .int .i64 q7, .int .i64 n1, .int .i64 n2, .int .i64 n3, .int .i64 n4, .int .i64 n5, .int .i64 t1, .int .i64 t2, .int .i64 c, .int .i64 m, .int .i64 wk, .slice tb tn cb, .int .i64 st] (34))
  have zs : (w.alloc (.cells #[.int .i64 gp, .int .i64 cl, .int .i64 sq, .int .i64 kd, .int .i64 ci, .int .i64 ir, .int .i64 bt, .int .i64 si, .int .i64 q1, .int .i64 q2, .int .i64 q3, .int .i64 q4, .int .i64 q5, .int .i64 q6, .int .i64 q7, .int .i64 n1, .int .i64 n2, .int .i64 n3, .int .i64 n4, .int .i64 n5, .int .i64 t1, .int .i64 t2, .int .i64 c, .int .i64 m, .int .i64 wk, .slice ta tn ca, .int .i64 st] 34)).heap.size = w.heap.size + 1 := by simp
  rw [zs] at X2
  have H1 := hid h1
  have H2 := hid h2
  clear h1 h2 zs
  generalize ((w.alloc (.cells #[.int .i64 gp, .int .i64 cl, .int .i64 sq, .int .i64 kd, .int .i64 ci, .int .i64 ir, .int .i64 bt, .int .i64 si, .int .i64 q1, .int .i64 q2, .int .i64 q3, .int .i64 q4, .int .i64 q5, .int .i64 q6, .int .i64 q7, .int .i64 n1, .int .i64 n2, .int .i64 n3, .int .i64 n4, .int .i64 n5, .int .i64 t1, .int .i64 t2, .int .i64 c, .int .i64 m, .int .i64 wk, .slice ta tn ca, .int .i64 st] 34)).alloc (.cells #[.int .i64 gp, .int .i64 cl, .int .i64 sq, .int .i64 kd, .int .i64 ci, .int .i64 ir, .int .i64 bt, .int .i64 si, .int .i64 q1, .int .i64 q2, .int .i64 q3, .int .i64 q4, .int .i64 q5, .int .i64 q6, .int .i64 q7, .int .i64 n1, .int .i64 n2, .int .i64 n3, .int .i64 n4, .int .i64 n5, .int .i64 t1, .int .i64 t2, .int .i64 c, .int .i64 m, .int .i64 wk, .slice tb tn cb, .int .i64 st] 34)) = W0 at *
  go_cut [5, 6] from 7 to 10 (fun v5 v6 wx => ∃ C1 C2, v5 = .pointer (some ⟨C1, 0, none⟩) ∧ v6 = .pointer (some ⟨C2, 0, none⟩) ∧ Hid (Blk wx w.heap.size 34 #[.int .i64 gp, .int .i64 cl, .int .i64 sq, .int .i64 kd, .int .i64 ci, .int .i64 ir, .int .i64 bt, .int .i64 si, .int .i64 q1, .int .i64 q2, .int .i64 q3, .int .i64 q4, .int .i64 q5, .int .i64 q6, .int .i64 q7, .int .i64 n1, .int .i64 n2, .int .i64 n3, .int .i64 n4, .int .i64 n5, .int .i64 t1, .int .i64 t2, .int .i64 c, .int .i64 m, .int .i64 wk, .slice ta tn ca, .int .i64 st] ∧ Blk wx (w.heap.size + 1) 34 #[.int .i64 gp, .int .i64 cl, .int .i64 sq, .int .i64 kd, .int .i64 ci, .int .i64 ir, .int .i64 bt, .int .i64 si, .int .i64 q1, .int .i64 q2, .int .i64 q3, .int .i64 q4, .int .i64 q5, .int .i64 q6, .int .i64 q7, .int .i64 n1, .int .i64 n2, .int .i64 n3, .int .i64 n4, .int .i64 n5, .int .i64 t1, .int .i64 t2, .int .i64 c, .int .i64 m, .int .i64 wk, .slice tb tn cb, .int .i64 st] ∧ Blk wx C1 32 #[.int .i64 kd, .int .i64 ci, .int .i64 ir, .int .i64 bt, .int .i64 si, .int .i64 q1, .int .i64 q2, .int .i64 q3, .int .i64 q4, .int .i64 q5, .int .i64 q6, .int .i64 q7, .int .i64 n1, .int .i64 n2, .int .i64 n3, .int .i64 n4, .int .i64 n5, .int .i64 t1, .int .i64 t2, .int .i64 c, .int .i64 m, .int .i64 wk, .slice ta tn ca, .int .i64 st] ∧ Blk wx C2 32 #[.int .i64 kd, .int .i64 ci, .int .i64 ir, .int .i64 bt, .int .i64 si, .int .i64 q1, .int .i64 q2, .int .i64 q3, .int .i64 q4, .int .i64 q5, .int .i64 q6, .int .i64 q7, .int .i64 n1, .int .i64 n2, .int .i64 n3, .int .i64 n4, .int .i64 n5, .int .i64 t1, .int .i64 t2, .int .i64 c, .int .i64 m, .int .i64 wk, .slice tb tn cb, .int .i64 st] ∧ Below w.heap.size w wx))
  case first =>
    refine wp_region_held_drew (S := fun W => Blk W w.heap.size 34 #[.int .i64 gp, .int .i64 cl, .int .i64 sq, .int .i64 kd, .int .i64 ci, .int .i64 ir, .int .i64 bt, .int .i64 si, .int .i64 q1, .int .i64 q2, .int .i64 q3, .int .i64 q4, .int .i64 q5, .int .i64 q6, .int .i64 q7, .int .i64 n1, .int .i64 n2, .int .i64 n3, .int .i64 n4, .int .i64 n5, .int .i64 t1, .int .i64 t2, .int .i64 c, .int .i64 m, .int .i64 wk, .slice ta tn ca, .int .i64 st] ∧ Blk W (w.heap.size + 1) 34 #[.int .i64 gp, .int .i64 cl, .int .i64 sq, .int .i64 kd, .int .i64 ci, .int .i64 ir, .int .i64 bt, .int .i64 si, .int .i64 q1, .int .i64 q2, .int .i64 q3, .int .i64 q4, .int .i64 q5, .int .i64 q6, .int .i64 q7, .int .i64 n1, .int .i64 n2, .int .i64 n3, .int .i64 n4, .int .i64 n5, .int .i64 t1, .int .i64 t2, .int .i64 c, .int .i64 m, .int .i64 wk, .slice tb tn cb, .int .i64 st]) (by kernel_rfl) ⟨X1.out, X2.out⟩ (fun hHeld => ?_)
    have D1 : Hid (Blk W0.drew w.heap.size 34 #[.int .i64 gp, .int .i64 cl, .int .i64 sq, .int .i64 kd, .int .i64 ci, .int .i64 ir, .int .i64 bt, .int .i64 si, .int .i64 q1, .int .i64 q2, .int .i64 q3, .int .i64 q4, .int .i64 q5, .int .i64 q6, .int .i64 q7, .int .i64 n1, .int .i64 n2, .int .i64 n3, .int .i64 n4, .int .i64 n5, .int .i64 t1, .int .i64 t2, .int .i64 c, .int .i64 m, .int .i64 wk, .slice ta tn ca, .int .i64 st]) := X1.out
    have D2 : Hid (Blk W0.drew (w.heap.size + 1) 34 #[.int .i64 gp, .int .i64 cl, .int .i64 sq, .int .i64 kd, .int .i64 ci, .int .i64 ir, .int .i64 bt, .int .i64 si, .int .i64 q1, .int .i64 q2, .int .i64 q3, .int .i64 q4, .int .i64 q5, .int .i64 q6, .int .i64 q7, .int .i64 n1, .int .i64 n2, .int .i64 n3, .int .i64 n4, .int .i64 n5, .int .i64 t1, .int .i64 t2, .int .i64 c, .int .i64 m, .int .i64 wk, .slice tb tn cb, .int .i64 st]) := X2.out
    have BD := hid B0.out.drew
    clear X1 X2 B0
    generalize W0.drew = WD at *
    refine wpAnyH_take (i := 0) (v := .pointer (some ⟨w.heap.size, 3, none⟩)) rfl (by kernel_rfl) (by kernel_rfl) (by kernel_rfl) (fun _ _ _ h => h) (Or.inl ⟨by rfl, ?_⟩) (by assumption) ?_
    · (intro w hSw; (try dsimp only at hSw); go_simp)
    (try simp only [Act.put, List.getElem_toArray, List.getElem_cons_succ, List.getElem_cons_zero, List.setIfInBounds_toArray, List.set_cons_zero, List.set_cons_succ])
    refine wpAnyH_take (i := 1) (v := .agg #[.int .i64 kd, .int .i64 ci, .int .i64 ir, .int .i64 bt, .int .i64 si, .int .i64 q1, .int .i64 q2, .int .i64 q3, .int .i64 q4, .int .i64 q5, .int .i64 q6, .int .i64 q7, .int .i64 n1, .int .i64 n2, .int .i64 n3, .int .i64 n4, .int .i64 n5, .int .i64 t1, .int .i64 t2, .int .i64 c, .int .i64 m, .int .i64 wk, .slice ta tn ca, .int .i64 st]) rfl (by kernel_rfl) (by kernel_rfl) (by kernel_rfl) (fun _ _ _ h => h) (yieldsIf_load_mid (by rfl) 32 (.tmp 7) rfl w.heap.size 3 rfl (#[.int .i64 kd, .int .i64 ci, .int .i64 ir, .int .i64 bt, .int .i64 si, .int .i64 q1, .int .i64 q2, .int .i64 q3, .int .i64 q4, .int .i64 q5, .int .i64 q6, .int .i64 q7, .int .i64 n1, .int .i64 n2, .int .i64 n3, .int .i64 n4, .int .i64 n5, .int .i64 t1, .int .i64 t2, .int .i64 c, .int .i64 m, .int .i64 wk, .slice ta tn ca, .int .i64 st] : Array Value).toList _ (fun W hW => Box.mid hW.1.box 3 24 _ rfl) Try.underlying32 rfl sizeCmd) (by assumption) ?_
    (try simp only [Act.put, List.getElem_toArray, List.getElem_cons_succ, List.getElem_cons_zero, List.setIfInBounds_toArray, List.set_cons_zero, List.set_cons_succ])
    refine wpAnyH_take (i := 2) (v := .pointer (some ⟨w.heap.size + 1, 3, none⟩)) rfl (by kernel_rfl) (by kernel_rfl) (by kernel_rfl) (fun _ _ _ h => h) (Or.inl ⟨by rfl, ?_⟩) (by assumption) ?_
    · (intro w hSw; (try dsimp only at hSw); go_simp)
    (try simp only [Act.put, List.getElem_toArray, List.getElem_cons_succ, List.getElem_cons_zero, List.setIfInBounds_toArray, List.set_cons_zero, List.set_cons_succ])
    refine wpAnyH_take (i := 3) (v := .agg #[.int .i64 kd, .int .i64 ci, .int .i64 ir, .int .i64 bt, .int .i64 si, .int .i64 q1, .int .i64 q2, .int .i64 q3, .int .i64 q4, .int .i64 q5, .int .i64 q6, .int .i64 q7, .int .i64 n1, .int .i64 n2, .int .i64 n3, .int .i64 n4, .int .i64 n5, .int .i64 t1, .int .i64 t2, .int .i64 c, .int .i64 m, .int .i64 wk, .slice tb tn cb, .int .i64 st]) rfl (by kernel_rfl) (by kernel_rfl) (by kernel_rfl) (fun _ _ _ h => h) (yieldsIf_load_mid (by rfl) 32 (.tmp 9) rfl (w.heap.size + 1) 3 rfl (#[.int .i64 kd, .int .i64 ci, .int .i64 ir, .int .i64 bt, .int .i64 si, .int .i64 q1, .int .i64 q2, .int .i64 q3, .int .i64 q4, .int .i64 q5, .int .i64 q6, .int .i64 q7, .int .i64 n1, .int .i64 n2, .int .i64 n3, .int .i64 n4, .int .i64 n5, .int .i64 t1, .int .i64 t2, .int .i64 c, .int .i64 m, .int .i64 wk, .slice tb tn cb, .int .i64 st] : Array Value).toList _ (fun W hW => Box.mid hW.2.box 3 24 _ rfl) Try.underlying32 rfl sizeCmd) (by assumption) ?_
    (try simp only [Act.put, List.getElem_toArray, List.getElem_cons_succ, List.getElem_cons_zero, List.setIfInBounds_toArray, List.set_cons_zero, List.set_cons_succ])
    refine wpAnyH_ready (rs := [4, 5]) (by kernel_rfl) (by simp) ?_
    refine AllReadyH.cons rfl (fun K hK => ?_) ?_
    · skip
      refine alloc_step rfl 32 cmd0 rfl (alloc_cmd _) ?_
      have b := (Below.refl WD.heap.size WD).alloc (Nat.le_refl _) (.cells cmd0 32)
      have E1WE := hid (D1.out.below b)
      have E2WE := hid (D2.out.below b)
      have NCA := hid (Blk.alloc WD cmd0 (32))
      have BWE := hid (BD.out.alloc BD.out.size (.cells cmd0 32))
      have LCA : Hid (w.heap.size < WD.heap.size ∧ w.heap.size + 1 < WD.heap.size) := ⟨D1.out.lt, D2.out.lt⟩
      clear b
      generalize WD.alloc (.cells cmd0 32) = WE at *
      generalize hca : WD.heap.size = CA at *
      have LA := hid NCA.out.lt
      refine hK.out _ _ ⟨E1WE.out, E2WE.out⟩ (fun hHeld => ?_)
      clear hK K
      (try simp only [Act.put, List.getElem_toArray, List.getElem_cons_succ, List.getElem_cons_zero, List.setIfInBounds_toArray, List.set_cons_zero, List.set_cons_succ])
      refine wpAnyH_ready (rs := [5]) (by kernel_rfl) (by simp) ?_
      refine AllReadyH.cons rfl (fun K hK => ?_) AllReadyH.nil
      refine alloc_step rfl 32 cmd0 rfl (alloc_cmd _) ?_
      have b := (Below.refl WE.heap.size WE).alloc (Nat.le_refl _) (.cells cmd0 32)
      have E1WF := hid (E1WE.out.below b)
      have E2WF := hid (E2WE.out.below b)
      replace NCA := hid (NCA.out.below b)
      have NCB := hid (Blk.alloc WE cmd0 (32))
      have BWF := hid (BWE.out.alloc BWE.out.size (.cells cmd0 32))
      have LCB : Hid (w.heap.size < WE.heap.size ∧ w.heap.size + 1 < WE.heap.size) := ⟨E1WE.out.lt, E2WE.out.lt⟩
      clear b
      generalize WE.alloc (.cells cmd0 32) = WF at *
      generalize hcb : WE.heap.size = CB at *
      refine hK.out _ _ ⟨E1WF.out, E2WF.out⟩ (fun hHeld => ?_)
      clear hK K
      (try simp only [Act.put, List.getElem_toArray, List.getElem_cons_succ, List.getElem_cons_zero, List.setIfInBounds_toArray, List.set_cons_zero, List.set_cons_succ])
      have NE : CA ≠ CB := Nat.ne_of_lt LA.out
      refine wpAnyH_ready (rs := [6]) (by kernel_rfl) (by simp) ?_
      refine AllReadyH.cons rfl (fun K hK => ?_) AllReadyH.nil
      refine storeRow_step rfl 32 (.tmp 5) (.tmp 8) rfl CA #[.int .i64 kd, .int .i64 ci, .int .i64 ir, .int .i64 bt, .int .i64 si, .int .i64 q1, .int .i64 q2, .int .i64 q3, .int .i64 q4, .int .i64 q5, .int .i64 q6, .int .i64 q7, .int .i64 n1, .int .i64 n2, .int .i64 n3, .int .i64 n4, .int .i64 n5, .int .i64 t1, .int .i64 t2, .int .i64 c, .int .i64 m, .int .i64 wk, .slice ta tn ca, .int .i64 st] rfl rfl 32 _ NCA.out sizeCmd rfl (by simp [Value.oneCell']) ?_
      refine hK.out _ _ ⟨E1WF.out.other (by have := LCA.out; have := LCB.out; omega), E2WF.out.other (by have := LCA.out; have := LCB.out; omega)⟩ (fun hHeld => ?_)
      clear hK K
      (try simp only [Act.put, List.getElem_toArray, List.getElem_cons_succ, List.getElem_cons_zero, List.setIfInBounds_toArray, List.set_cons_zero, List.set_cons_succ])
      refine wpAnyH_ready (rs := [7]) (by kernel_rfl) (by simp) ?_
      refine AllReadyH.cons rfl (fun K hK => ?_) AllReadyH.nil
      refine storeRow_step rfl 32 (.tmp 6) (.tmp 10) rfl CB #[.int .i64 kd, .int .i64 ci, .int .i64 ir, .int .i64 bt, .int .i64 si, .int .i64 q1, .int .i64 q2, .int .i64 q3, .int .i64 q4, .int .i64 q5, .int .i64 q6, .int .i64 q7, .int .i64 n1, .int .i64 n2, .int .i64 n3, .int .i64 n4, .int .i64 n5, .int .i64 t1, .int .i64 t2, .int .i64 c, .int .i64 m, .int .i64 wk, .slice tb tn cb, .int .i64 st] rfl rfl 32 _ (NCB.out.other (by omega)) sizeCmd rfl (by simp [Value.oneCell']) ?_
      refine hK.out _ _ ⟨(E1WF.out.other (by have := LCA.out; have := LCB.out; omega)).other (by have := LCA.out; have := LCB.out; omega), (E2WF.out.other (by have := LCA.out; have := LCB.out; omega)).other (by have := LCA.out; have := LCB.out; omega)⟩ (fun hHeld => ?_)
      clear hK K
      (try simp only [Act.put, List.getElem_toArray, List.getElem_cons_succ, List.getElem_cons_zero, List.setIfInBounds_toArray, List.set_cons_zero, List.set_cons_succ])
      refine wpAnyH_done (by kernel_rfl) ?_ _
      have FIN : Hid (Blk ((WF.setRow CA #[.int .i64 kd, .int .i64 ci, .int .i64 ir, .int .i64 bt, .int .i64 si, .int .i64 q1, .int .i64 q2, .int .i64 q3, .int .i64 q4, .int .i64 q5, .int .i64 q6, .int .i64 q7, .int .i64 n1, .int .i64 n2, .int .i64 n3, .int .i64 n4, .int .i64 n5, .int .i64 t1, .int .i64 t2, .int .i64 c, .int .i64 m, .int .i64 wk, .slice ta tn ca, .int .i64 st]).setRow CB #[.int .i64 kd, .int .i64 ci, .int .i64 ir, .int .i64 bt, .int .i64 si, .int .i64 q1, .int .i64 q2, .int .i64 q3, .int .i64 q4, .int .i64 q5, .int .i64 q6, .int .i64 q7, .int .i64 n1, .int .i64 n2, .int .i64 n3, .int .i64 n4, .int .i64 n5, .int .i64 t1, .int .i64 t2, .int .i64 c, .int .i64 m, .int .i64 wk, .slice tb tn cb, .int .i64 st]) w.heap.size 34 #[.int .i64 gp, .int .i64 cl, .int .i64 sq, .int .i64 kd, .int .i64 ci, .int .i64 ir, .int .i64 bt, .int .i64 si, .int .i64 q1, .int .i64 q2, .int .i64 q3, .int .i64 q4, .int .i64 q5, .int .i64 q6, .int .i64 q7, .int .i64 n1, .int .i64 n2, .int .i64 n3, .int .i64 n4, .int .i64 n5, .int .i64 t1, .int .i64 t2, .int .i64 c, .int .i64 m, .int .i64 wk, .slice ta tn ca, .int .i64 st] ∧ Blk ((WF.setRow CA #[.int .i64 kd, .int .i64 ci, .int .i64 ir, .int .i64 bt, .int .i64 si, .int .i64 q1, .int .i64 q2, .int .i64 q3, .int .i64 q4, .int .i64 q5, .int .i64 q6, .int .i64 q7, .int .i64 n1, .int .i64 n2, .int .i64 n3, .int .i64 n4, .int .i64 n5, .int .i64 t1, .int .i64 t2, .int .i64 c, .int .i64 m, .int .i64 wk, .slice ta tn ca, .int .i64 st]).setRow CB #[.int .i64 kd, .int .i64 ci, .int .i64 ir, .int .i64 bt, .int .i64 si, .int .i64 q1, .int .i64 q2, .int .i64 q3, .int .i64 q4, .int .i64 q5, .int .i64 q6, .int .i64 q7, .int .i64 n1, .int .i64 n2, .int .i64 n3, .int .i64 n4, .int .i64 n5, .int .i64 t1, .int .i64 t2, .int .i64 c, .int .i64 m, .int .i64 wk, .slice tb tn cb, .int .i64 st]) (w.heap.size + 1) 34 #[.int .i64 gp, .int .i64 cl, .int .i64 sq, .int .i64 kd, .int .i64 ci, .int .i64 ir, .int .i64 bt, .int .i64 si, .int .i64 q1, .int .i64 q2, .int .i64 q3, .int .i64 q4, .int .i64 q5, .int .i64 q6, .int .i64 q7, .int .i64 n1, .int .i64 n2, .int .i64 n3, .int .i64 n4, .int .i64 n5, .int .i64 t1, .int .i64 t2, .int .i64 c, .int .i64 m, .int .i64 wk, .slice tb tn cb, .int .i64 st] ∧ Blk ((WF.setRow CA #[.int .i64 kd, .int .i64 ci, .int .i64 ir, .int .i64 bt, .int .i64 si, .int .i64 q1, .int .i64 q2, .int .i64 q3, .int .i64 q4, .int .i64 q5, .int .i64 q6, .int .i64 q7, .int .i64 n1, .int .i64 n2, .int .i64 n3, .int .i64 n4, .int .i64 n5, .int .i64 t1, .int .i64 t2, .int .i64 c, .int .i64 m, .int .i64 wk, .slice ta tn ca, .int .i64 st]).setRow CB #[.int .i64 kd, .int .i64 ci, .int .i64 ir, .int .i64 bt, .int .i64 si, .int .i64 q1, .int .i64 q2, .int .i64 q3, .int .i64 q4, .int .i64 q5, .int .i64 q6, .int .i64 q7, .int .i64 n1, .int .i64 n2, .int .i64 n3, .int .i64 n4, .int .i64 n5, .int .i64 t1, .int .i64 t2, .int .i64 c, .int .i64 m, .int .i64 wk, .slice tb tn cb, .int .i64 st]) CA 32 #[.int .i64 kd, .int .i64 ci, .int .i64 ir, .int .i64 bt, .int .i64 si, .int .i64 q1, .int .i64 q2, .int .i64 q3, .int .i64 q4, .int .i64 q5, .int .i64 q6, .int .i64 q7, .int .i64 n1, .int .i64 n2, .int .i64 n3, .int .i64 n4, .int .i64 n5, .int .i64 t1, .int .i64 t2, .int .i64 c, .int .i64 m, .int .i64 wk, .slice ta tn ca, .int .i64 st] ∧ Blk ((WF.setRow CA #[.int .i64 kd, .int .i64 ci, .int .i64 ir, .int .i64 bt, .int .i64 si, .int .i64 q1, .int .i64 q2, .int .i64 q3, .int .i64 q4, .int .i64 q5, .int .i64 q6, .int .i64 q7, .int .i64 n1, .int .i64 n2, .int .i64 n3, .int .i64 n4, .int .i64 n5, .int .i64 t1, .int .i64 t2, .int .i64 c, .int .i64 m, .int .i64 wk, .slice ta tn ca, .int .i64 st]).setRow CB #[.int .i64 kd, .int .i64 ci, .int .i64 ir, .int .i64 bt, .int .i64 si, .int .i64 q1, .int .i64 q2, .int .i64 q3, .int .i64 q4, .int .i64 q5, .int .i64 q6, .int .i64 q7, .int .i64 n1, .int .i64 n2, .int .i64 n3, .int .i64 n4, .int .i64 n5, .int .i64 t1, .int .i64 t2, .int .i64 c, .int .i64 m, .int .i64 wk, .slice tb tn cb, .int .i64 st]) CB 32 #[.int .i64 kd, .int .i64 ci, .int .i64 ir, .int .i64 bt, .int .i64 si, .int .i64 q1, .int .i64 q2, .int .i64 q3, .int .i64 q4, .int .i64 q5, .int .i64 q6, .int .i64 q7, .int .i64 n1, .int .i64 n2, .int .i64 n3, .int .i64 n4, .int .i64 n5, .int .i64 t1, .int .i64 t2, .int .i64 c, .int .i64 m, .int .i64 wk, .slice tb tn cb, .int .i64 st] ∧ Below w.heap.size w ((WF.setRow CA #[.int .i64 kd, .int .i64 ci, .int .i64 ir, .int .i64 bt, .int .i64 si, .int .i64 q1, .int .i64 q2, .int .i64 q3, .int .i64 q4, .int .i64 q5, .int .i64 q6, .int .i64 q7, .int .i64 n1, .int .i64 n2, .int .i64 n3, .int .i64 n4, .int .i64 n5, .int .i64 t1, .int .i64 t2, .int .i64 c, .int .i64 m, .int .i64 wk, .slice ta tn ca, .int .i64 st]).setRow CB #[.int .i64 kd, .int .i64 ci, .int .i64 ir, .int .i64 bt, .int .i64 si, .int .i64 q1, .int .i64 q2, .int .i64 q3, .int .i64 q4, .int .i64 q5, .int .i64 q6, .int .i64 q7, .int .i64 n1, .int .i64 n2, .int .i64 n3, .int .i64 n4, .int .i64 n5, .int .i64 t1, .int .i64 t2, .int .i64 c, .int .i64 m, .int .i64 wk, .slice tb tn cb, .int .i64 st])) := ⟨hHeld.1, hHeld.2, (NCA.out.row _).other (by omega), (NCB.out.other (by omega)).row _, setRow_below (setRow_below BWF.out (by have := LCA.out; have := LCB.out; omega)) (by have := LCA.out; have := LCB.out; omega)⟩
      clear hHeld
      go_wp2_with fail
      go_meet
      exact ⟨CA, CB, rfl, rfl, FIN⟩
    refine AllReadyH.cons rfl (fun K hK => ?_) AllReadyH.nil
    refine alloc_step rfl 32 cmd0 rfl (alloc_cmd _) ?_
    have b := (Below.refl WD.heap.size WD).alloc (Nat.le_refl _) (.cells cmd0 32)
    have E1WE := hid (D1.out.below b)
    have E2WE := hid (D2.out.below b)
    have NCA := hid (Blk.alloc WD cmd0 (32))
    have BWE := hid (BD.out.alloc BD.out.size (.cells cmd0 32))
    have LCA : Hid (w.heap.size < WD.heap.size ∧ w.heap.size + 1 < WD.heap.size) := ⟨D1.out.lt, D2.out.lt⟩
    clear b
    generalize WD.alloc (.cells cmd0 32) = WE at *
    generalize hca : WD.heap.size = CA at *
    have LA := hid NCA.out.lt
    refine hK.out _ _ ⟨E1WE.out, E2WE.out⟩ (fun hHeld => ?_)
    clear hK K
    (try simp only [Act.put, List.getElem_toArray, List.getElem_cons_succ, List.getElem_cons_zero, List.setIfInBounds_toArray, List.set_cons_zero, List.set_cons_succ])
    refine wpAnyH_ready (rs := [4]) (by kernel_rfl) (by simp) ?_
    refine AllReadyH.cons rfl (fun K hK => ?_) AllReadyH.nil
    refine alloc_step rfl 32 cmd0 rfl (alloc_cmd _) ?_
    have b := (Below.refl WE.heap.size WE).alloc (Nat.le_refl _) (.cells cmd0 32)
    have E1WF := hid (E1WE.out.below b)
    have E2WF := hid (E2WE.out.below b)
    replace NCA := hid (NCA.out.below b)
    have NCB := hid (Blk.alloc WE cmd0 (32))
    have BWF := hid (BWE.out.alloc BWE.out.size (.cells cmd0 32))
    have LCB : Hid (w.heap.size < WE.heap.size ∧ w.heap.size + 1 < WE.heap.size) := ⟨E1WE.out.lt, E2WE.out.lt⟩
    clear b
    generalize WE.alloc (.cells cmd0 32) = WF at *
    generalize hcb : WE.heap.size = CB at *
    refine hK.out _ _ ⟨E1WF.out, E2WF.out⟩ (fun hHeld => ?_)
    clear hK K
    (try simp only [Act.put, List.getElem_toArray, List.getElem_cons_succ, List.getElem_cons_zero, List.setIfInBounds_toArray, List.set_cons_zero, List.set_cons_succ])
    have NE : CA ≠ CB := Nat.ne_of_lt LA.out
    refine wpAnyH_ready (rs := [6]) (by kernel_rfl) (by simp) ?_
    refine AllReadyH.cons rfl (fun K hK => ?_) AllReadyH.nil
    refine storeRow_step rfl 32 (.tmp 5) (.tmp 8) rfl CB #[.int .i64 kd, .int .i64 ci, .int .i64 ir, .int .i64 bt, .int .i64 si, .int .i64 q1, .int .i64 q2, .int .i64 q3, .int .i64 q4, .int .i64 q5, .int .i64 q6, .int .i64 q7, .int .i64 n1, .int .i64 n2, .int .i64 n3, .int .i64 n4, .int .i64 n5, .int .i64 t1, .int .i64 t2, .int .i64 c, .int .i64 m, .int .i64 wk, .slice ta tn ca, .int .i64 st] rfl rfl 32 _ NCB.out sizeCmd rfl (by simp [Value.oneCell']) ?_
    refine hK.out _ _ ⟨E1WF.out.other (by have := LCA.out; have := LCB.out; omega), E2WF.out.other (by have := LCA.out; have := LCB.out; omega)⟩ (fun hHeld => ?_)
    clear hK K
    (try simp only [Act.put, List.getElem_toArray, List.getElem_cons_succ, List.getElem_cons_zero, List.setIfInBounds_toArray, List.set_cons_zero, List.set_cons_succ])
    refine wpAnyH_ready (rs := [7]) (by kernel_rfl) (by simp) ?_
    refine AllReadyH.cons rfl (fun K hK => ?_) AllReadyH.nil
    refine storeRow_step rfl 32 (.tmp 6) (.tmp 10) rfl CA #[.int .i64 kd, .int .i64 ci, .int .i64 ir, .int .i64 bt, .int .i64 si, .int .i64 q1, .int .i64 q2, .int .i64 q3, .int .i64 q4, .int .i64 q5, .int .i64 q6, .int .i64 q7, .int .i64 n1, .int .i64 n2, .int .i64 n3, .int .i64 n4, .int .i64 n5, .int .i64 t1, .int .i64 t2, .int .i64 c, .int .i64 m, .int .i64 wk, .slice tb tn cb, .int .i64 st] rfl rfl 32 _ (NCA.out.other (by omega)) sizeCmd rfl (by simp [Value.oneCell']) ?_
    refine hK.out _ _ ⟨(E1WF.out.other (by have := LCA.out; have := LCB.out; omega)).other (by have := LCA.out; have := LCB.out; omega), (E2WF.out.other (by have := LCA.out; have := LCB.out; omega)).other (by have := LCA.out; have := LCB.out; omega)⟩ (fun hHeld => ?_)
    clear hK K
    (try simp only [Act.put, List.getElem_toArray, List.getElem_cons_succ, List.getElem_cons_zero, List.setIfInBounds_toArray, List.set_cons_zero, List.set_cons_succ])
    refine wpAnyH_done (by kernel_rfl) ?_ _
    have FIN : Hid (Blk ((WF.setRow CB #[.int .i64 kd, .int .i64 ci, .int .i64 ir, .int .i64 bt, .int .i64 si, .int .i64 q1, .int .i64 q2, .int .i64 q3, .int .i64 q4, .int .i64 q5, .int .i64 q6, .int .i64 q7, .int .i64 n1, .int .i64 n2, .int .i64 n3, .int .i64 n4, .int .i64 n5, .int .i64 t1, .int .i64 t2, .int .i64 c, .int .i64 m, .int .i64 wk, .slice ta tn ca, .int .i64 st]).setRow CA #[.int .i64 kd, .int .i64 ci, .int .i64 ir, .int .i64 bt, .int .i64 si, .int .i64 q1, .int .i64 q2, .int .i64 q3, .int .i64 q4, .int .i64 q5, .int .i64 q6, .int .i64 q7, .int .i64 n1, .int .i64 n2, .int .i64 n3, .int .i64 n4, .int .i64 n5, .int .i64 t1, .int .i64 t2, .int .i64 c, .int .i64 m, .int .i64 wk, .slice tb tn cb, .int .i64 st]) w.heap.size 34 #[.int .i64 gp, .int .i64 cl, .int .i64 sq, .int .i64 kd, .int .i64 ci, .int .i64 ir, .int .i64 bt, .int .i64 si, .int .i64 q1, .int .i64 q2, .int .i64 q3, .int .i64 q4, .int .i64 q5, .int .i64 q6, .int .i64 q7, .int .i64 n1, .int .i64 n2, .int .i64 n3, .int .i64 n4, .int .i64 n5, .int .i64 t1, .int .i64 t2, .int .i64 c, .int .i64 m, .int .i64 wk, .slice ta tn ca, .int .i64 st] ∧ Blk ((WF.setRow CB #[.int .i64 kd, .int .i64 ci, .int .i64 ir, .int .i64 bt, .int .i64 si, .int .i64 q1, .int .i64 q2, .int .i64 q3, .int .i64 q4, .int .i64 q5, .int .i64 q6, .int .i64 q7, .int .i64 n1, .int .i64 n2, .int .i64 n3, .int .i64 n4, .int .i64 n5, .int .i64 t1, .int .i64 t2, .int .i64 c, .int .i64 m, .int .i64 wk, .slice ta tn ca, .int .i64 st]).setRow CA #[.int .i64 kd, .int .i64 ci, .int .i64 ir, .int .i64 bt, .int .i64 si, .int .i64 q1, .int .i64 q2, .int .i64 q3, .int .i64 q4, .int .i64 q5, .int .i64 q6, .int .i64 q7, .int .i64 n1, .int .i64 n2, .int .i64 n3, .int .i64 n4, .int .i64 n5, .int .i64 t1, .int .i64 t2, .int .i64 c, .int .i64 m, .int .i64 wk, .slice tb tn cb, .int .i64 st]) (w.heap.size + 1) 34 #[.int .i64 gp, .int .i64 cl, .int .i64 sq, .int .i64 kd, .int .i64 ci, .int .i64 ir, .int .i64 bt, .int .i64 si, .int .i64 q1, .int .i64 q2, .int .i64 q3, .int .i64 q4, .int .i64 q5, .int .i64 q6, .int .i64 q7, .int .i64 n1, .int .i64 n2, .int .i64 n3, .int .i64 n4, .int .i64 n5, .int .i64 t1, .int .i64 t2, .int .i64 c, .int .i64 m, .int .i64 wk, .slice tb tn cb, .int .i64 st] ∧ Blk ((WF.setRow CB #[.int .i64 kd, .int .i64 ci, .int .i64 ir, .int .i64 bt, .int .i64 si, .int .i64 q1, .int .i64 q2, .int .i64 q3, .int .i64 q4, .int .i64 q5, .int .i64 q6, .int .i64 q7, .int .i64 n1, .int .i64 n2, .int .i64 n3, .int .i64 n4, .int .i64 n5, .int .i64 t1, .int .i64 t2, .int .i64 c, .int .i64 m, .int .i64 wk, .slice ta tn ca, .int .i64 st]).setRow CA #[.int .i64 kd, .int .i64 ci, .int .i64 ir, .int .i64 bt, .int .i64 si, .int .i64 q1, .int .i64 q2, .int .i64 q3, .int .i64 q4, .int .i64 q5, .int .i64 q6, .int .i64 q7, .int .i64 n1, .int .i64 n2, .int .i64 n3, .int .i64 n4, .int .i64 n5, .int .i64 t1, .int .i64 t2, .int .i64 c, .int .i64 m, .int .i64 wk, .slice tb tn cb, .int .i64 st]) CB 32 #[.int .i64 kd, .int .i64 ci, .int .i64 ir, .int .i64 bt, .int .i64 si, .int .i64 q1, .int .i64 q2, .int .i64 q3, .int .i64 q4, .int .i64 q5, .int .i64 q6, .int .i64 q7, .int .i64 n1, .int .i64 n2, .int .i64 n3, .int .i64 n4, .int .i64 n5, .int .i64 t1, .int .i64 t2, .int .i64 c, .int .i64 m, .int .i64 wk, .slice ta tn ca, .int .i64 st] ∧ Blk ((WF.setRow CB #[.int .i64 kd, .int .i64 ci, .int .i64 ir, .int .i64 bt, .int .i64 si, .int .i64 q1, .int .i64 q2, .int .i64 q3, .int .i64 q4, .int .i64 q5, .int .i64 q6, .int .i64 q7, .int .i64 n1, .int .i64 n2, .int .i64 n3, .int .i64 n4, .int .i64 n5, .int .i64 t1, .int .i64 t2, .int .i64 c, .int .i64 m, .int .i64 wk, .slice ta tn ca, .int .i64 st]).setRow CA #[.int .i64 kd, .int .i64 ci, .int .i64 ir, .int .i64 bt, .int .i64 si, .int .i64 q1, .int .i64 q2, .int .i64 q3, .int .i64 q4, .int .i64 q5, .int .i64 q6, .int .i64 q7, .int .i64 n1, .int .i64 n2, .int .i64 n3, .int .i64 n4, .int .i64 n5, .int .i64 t1, .int .i64 t2, .int .i64 c, .int .i64 m, .int .i64 wk, .slice tb tn cb, .int .i64 st]) CA 32 #[.int .i64 kd, .int .i64 ci, .int .i64 ir, .int .i64 bt, .int .i64 si, .int .i64 q1, .int .i64 q2, .int .i64 q3, .int .i64 q4, .int .i64 q5, .int .i64 q6, .int .i64 q7, .int .i64 n1, .int .i64 n2, .int .i64 n3, .int .i64 n4, .int .i64 n5, .int .i64 t1, .int .i64 t2, .int .i64 c, .int .i64 m, .int .i64 wk, .slice tb tn cb, .int .i64 st] ∧ Below w.heap.size w ((WF.setRow CB #[.int .i64 kd, .int .i64 ci, .int .i64 ir, .int .i64 bt, .int .i64 si, .int .i64 q1, .int .i64 q2, .int .i64 q3, .int .i64 q4, .int .i64 q5, .int .i64 q6, .int .i64 q7, .int .i64 n1, .int .i64 n2, .int .i64 n3, .int .i64 n4, .int .i64 n5, .int .i64 t1, .int .i64 t2, .int .i64 c, .int .i64 m, .int .i64 wk, .slice ta tn ca, .int .i64 st]).setRow CA #[.int .i64 kd, .int .i64 ci, .int .i64 ir, .int .i64 bt, .int .i64 si, .int .i64 q1, .int .i64 q2, .int .i64 q3, .int .i64 q4, .int .i64 q5, .int .i64 q6, .int .i64 q7, .int .i64 n1, .int .i64 n2, .int .i64 n3, .int .i64 n4, .int .i64 n5, .int .i64 t1, .int .i64 t2, .int .i64 c, .int .i64 m, .int .i64 wk, .slice tb tn cb, .int .i64 st])) := ⟨hHeld.1, hHeld.2, (NCB.out.row _).other (by omega), (NCA.out.other (by omega)).row _, setRow_below (setRow_below BWF.out (by have := LCA.out; have := LCB.out; omega)) (by have := LCA.out; have := LCB.out; omega)⟩
    clear hHeld
    go_wp2_with fail
    go_meet
    exact ⟨CB, CA, rfl, rfl, FIN⟩
  case rest =>
    obtain ⟨C1, C2, rfl, rfl, hh⟩ := hcut
    have Z1 := hid hh.out.1
    have Z2 := hid hh.out.2.1
    have Z3 := hid hh.out.2.2.1
    have Z4 := hid hh.out.2.2.2.1
    have B1 := hid hh.out.2.2.2.2
    have CT := hid (HS.out wc (H1.out.below B1.out) (H2.out.below B1.out))
    have a0 := Z1.out.box 0 (.int .i64 gp) rfl
    have b0 := Z2.out.box 0 (.int .i64 gp) rfl
    have a1 := Z1.out.box 1 (.int .i64 cl) rfl
    have b1 := Z2.out.box 1 (.int .i64 cl) rfl
    have a2 := Z1.out.box 2 (.int .i64 sq) rfl
    have b2 := Z2.out.box 2 (.int .i64 sq) rfl
    have c0 := Z3.out.box 0 (.int .i64 kd) rfl
    have d0 := Z4.out.box 0 (.int .i64 kd) rfl
    have c1 := Z3.out.box 1 (.int .i64 ci) rfl
    have d1 := Z4.out.box 1 (.int .i64 ci) rfl
    have c2 := Z3.out.box 2 (.int .i64 ir) rfl
    have d2 := Z4.out.box 2 (.int .i64 ir) rfl
    have c3 := Z3.out.box 3 (.int .i64 bt) rfl
    have d3 := Z4.out.box 3 (.int .i64 bt) rfl
    have c4 := Z3.out.box 4 (.int .i64 si) rfl
    have d4 := Z4.out.box 4 (.int .i64 si) rfl
    have c5 := Z3.out.box 5 (.int .i64 q1) rfl
    have d5 := Z4.out.box 5 (.int .i64 q1) rfl
    have c6 := Z3.out.box 6 (.int .i64 q2) rfl
    have d6 := Z4.out.box 6 (.int .i64 q2) rfl
    have c7 := Z3.out.box 7 (.int .i64 q3) rfl
    have d7 := Z4.out.box 7 (.int .i64 q3) rfl
    have c8 := Z3.out.box 8 (.int .i64 q4) rfl
    have d8 := Z4.out.box 8 (.int .i64 q4) rfl
    have c9 := Z3.out.box 9 (.int .i64 q5) rfl
    have d9 := Z4.out.box 9 (.int .i64 q5) rfl
    have c10 := Z3.out.box 10 (.int .i64 q6) rfl
    have d10 := Z4.out.box 10 (.int .i64 q6) rfl
    have c11 := Z3.out.box 11 (.int .i64 q7) rfl
    have d11 := Z4.out.box 11 (.int .i64 q7) rfl
    have c12 := Z3.out.box 12 (.int .i64 n1) rfl
    have d12 := Z4.out.box 12 (.int .i64 n1) rfl
    have c13 := Z3.out.box 13 (.int .i64 n2) rfl
    have d13 := Z4.out.box 13 (.int .i64 n2) rfl
    have c14 := Z3.out.box 14 (.int .i64 n3) rfl
    have d14 := Z4.out.box 14 (.int .i64 n3) rfl
    have c15 := Z3.out.box 15 (.int .i64 n4) rfl
    have d15 := Z4.out.box 15 (.int .i64 n4) rfl
    have c16 := Z3.out.box 16 (.int .i64 n5) rfl
    have d16 := Z4.out.box 16 (.int .i64 n5) rfl
    have c17 := Z3.out.box 17 (.int .i64 t1) rfl
    have d17 := Z4.out.box 17 (.int .i64 t1) rfl
    have c18 := Z3.out.box 18 (.int .i64 t2) rfl
    have d18 := Z4.out.box 18 (.int .i64 t2) rfl
    have c19 := Z3.out.box 19 (.int .i64 c) rfl
    have d19 := Z4.out.box 19 (.int .i64 c) rfl
    have c20 := Z3.out.box 20 (.int .i64 m) rfl
    have d20 := Z4.out.box 20 (.int .i64 m) rfl
    have c21 := Z3.out.box 21 (.int .i64 wk) rfl
    have d21 := Z4.out.box 21 (.int .i64 wk) rfl
    have c22 := Z3.out.box 22 (.slice ta tn ca) rfl
    have d22 := Z4.out.box 22 (.slice tb tn cb) rfl
    have c23 := Z3.out.box 23 (.int .i64 st) rfl
    have d23 := Z4.out.box 23 (.int .i64 st) rfl
    clear hh X1 X2 B0 H1 H2 HS
    go_wp2_with fail
    with_reducible refine CT.out.mono ?_
    rintro e W1 ⟨rfl, b1⟩
    clear CT
    go_wp2_with fail
    go_ret
    exact ⟨rfl, B1.out.trans (b1.mono B1.out.size)⟩
end Go.Proofs.Ythkbddnkcljjpaa

namespace Go.Proofs.Ythkbddnkcljjpaa
open Go.RowKit Go.Deep Go.Maps
set_option linter.unusedVariables false
set_option linter.unusedSimpArgs false

/-- The bytes of the first entry. -/
def awk : List Int := [2, 4, 6, 2, 14, 0, 0, 0, 0, 0, 0, 0, 0, 0, 0, 0, 0, 0, 0, 0, 0, 0, 0, 0, 0, 0, 0]
set_option maxRecDepth 100000 in
theorem awk_enc : entZ 1 2 3 (cmdZ 2 7 0 0 0 (bytesZ [0, 0, 0, 0, 0, 0, 0]) (bytesZ [0, 0, 0, 0, 0]) (taskZ 0 0 0 0 0 [] 0)) = awk := by kernel_rfl
set_option maxRecDepth 100000 in
theorem awk_end : (enE awk 0 0).2 = (27, 0) := by kernel_rfl
set_option maxRecDepth 100000 in
theorem awk_id : (enN awk 0 0 0).1 = 7 := by kernel_rfl
theorem holdsN_nil (w : World) : HoldsN w none 0 0 [] := ⟨rfl, by omega, by omega, fun _ => ⟨rfl, rfl⟩, fun h => absurd h (by omega)⟩
theorem Blk.at {W : World} {Q t : Nat} {cs : Array Value} (h : Blk W Q t cs) (i : Nat) (v : Value) (e : cs[i]? = some v) : W.cell? ⟨Q, i, none⟩ = some v := by
  have h' : W.heap[Q]? = some (.cells cs t (0, 0)) := h
  simp [World.cell?, h', e]
set_option maxRecDepth 100000 in
set_option maxHeartbeats 8000000 in
theorem awake10_any (w : World) : Calls Try.prog 10 #[] w fun e w' => e = .returned (.bool true) ∧ Below w.heap.size w w' := by
  have HE := hid (fun W => encentry_any 1 2 3 2 7 0 0 0 0 0 0 0 0 0 0 0 0 0 0 0 0 0 0 0 0 none 0 0 [] 0 W ⟨by decide, by decide⟩ ⟨by decide, by decide⟩ ⟨by decide, by decide⟩ ⟨by decide, by decide⟩ ⟨by decide, by decide⟩ ⟨by decide, by decide⟩ ⟨by decide, by decide⟩ ⟨by decide, by decide⟩ ⟨by decide, by decide⟩ ⟨by decide, by decide⟩ ⟨by decide, by decide⟩ ⟨by decide, by decide⟩ ⟨by decide, by decide⟩ ⟨by decide, by decide⟩ ⟨by decide, by decide⟩ ⟨by decide, by decide⟩ ⟨by decide, by decide⟩ ⟨by decide, by decide⟩ ⟨by decide, by decide⟩ ⟨by decide, by decide⟩ ⟨by decide, by decide⟩ ⟨by decide, by decide⟩ ⟨by decide, by decide⟩ ⟨by decide, by decide⟩ ⟨by decide, by decide⟩ ⟨by decide, by decide⟩ (holdsN_nil W) (by intro x hx; cases hx))
  rw [show encE 0 2 = 0 from rfl, awk_enc] at HE
  go_enter Try.func10, Try.ntmps10
  have C1 := hid (HE.out w)
  clear HE
  go_wp2_with (first | refine wpList_built rfl 32 _ rfl #[.int .i64 2, .int .i64 7, .int .i64 0, .int .i64 0, .int .i64 0, .int .i64 0, .int .i64 0, .int .i64 0, .int .i64 0, .int .i64 0, .int .i64 0, .int .i64 0, .int .i64 0, .int .i64 0, .int .i64 0, .int .i64 0, .int .i64 0, .int .i64 0, .int .i64 0, .int .i64 0, .int .i64 0, .int .i64 0, .slice none 0 0, .int .i64 0] (by kernel_rfl) ?_ | refine wpList_built rfl 34 _ rfl #[.int .i64 1, .int .i64 2, .int .i64 3, .int .i64 2, .int .i64 7, .int .i64 0, .int .i64 0, .int .i64 0, .int .i64 0, .int .i64 0, .int .i64 0, .int .i64 0, .int .i64 0, .int .i64 0, .int .i64 0, .int .i64 0, .int .i64 0, .int .i64 0, .int .i64 0, .int .i64 0, .int .i64 0, .int .i64 0, .int .i64 0, .int .i64 0, .int .i64 0, .slice none 0 0, .int .i64 0] (by kernel_rfl) ?_)
  with_reducible refine C1.out.mono ?_
  rintro e W1 ⟨v, rfl, h1, _, b1⟩
  have O1 := h1 (by trivial)
  obtain ⟨a, c, rfl⟩ := O1.form
  have HB := hid O1.holds
  have B1 := hid b1
  clear C1 h1 b1 O1
  have hN : awk.length = 27 := rfl
  rw [hN] at HB
  rw [hN]
  have C2 := hid (decentry_any a 27 c awk W1 HB.out)
  rw [awk_end, show endT 27 ((27, 0) : Int × Int).1 ((27, 0) : Int × Int).2 = (0, 0) from rfl] at C2
  go_wp2_with fail
  with_reducible refine C2.out.mono ?_
  rintro e W2 ⟨cs, rfl, _, hcs, hcz, hon, b2⟩
  obtain ⟨va, hcv, _⟩ := hcs (by trivial)
  have h4 : cs[4]? = some (.int .i64 7) := by rw [hcv]; show some (Value.int .i64 (enN awk 0 0 0).1) = _; rw [awk_id]
  have H4 := hid h4
  have hsz : (Try.prog.info? 34).map (·.size) = some cs.size := by rw [hcz]; exact sizeEnt
  clear C2 hcs hcv h4
  go_upto_region 3 with (refine wpList_store_row rfl 34 (.tmp 3) (.tmp 15) rfl W2.heap.size cs rfl rfl 34 _ (heap_alloc_new W2 _) hsz (by rw [hcz]; rfl) hon ?_)
  rw [alloc_row]
  have b3 := (Below.refl W2.heap.size W2).alloc (Nat.le_refl _) (.cells cs 34)
  have B3 := hid (B1.out.trans ((b2.mono B1.out.size).trans (b3.mono (Nat.le_trans B1.out.size b2.size))))
  have HB3 := hid ((HB.out.below b2).below b3)
  have c4 := (Blk.alloc W2 cs (34)).at 4 _ H4.out
  clear HB B1 b2 b3 hsz hon hcz
  generalize W2.alloc (.cells cs 34) = W3 at *
  generalize W2.heap.size = QX at *
  obtain ⟨_, _, hc1, hc2, _, _, hx⟩ := HB3.out
  obtain ⟨b, o, rfl, hcell⟩ := hx (by omega)
  have x0 : W3.cell? ⟨b, o, none⟩ = some (.int .u8 2) := hcell 0 (by omega)
  have x1 : W3.cell? ⟨b, o + 1, none⟩ = some (.int .u8 4) := hcell 1 (by omega)
  have x2 : W3.cell? ⟨b, o + 2, none⟩ = some (.int .u8 6) := hcell 2 (by omega)
  have x3 : W3.cell? ⟨b, o + 3, none⟩ = some (.int .u8 2) := hcell 3 (by omega)
  have x4 : W3.cell? ⟨b, o + 4, none⟩ = some (.int .u8 14) := hcell 4 (by omega)
  clear hcell hx HB3 H4
  go_wp2_with fail
  go_ret
  exact ⟨rfl, B3.out⟩
end Go.Proofs.Ythkbddnkcljjpaa
