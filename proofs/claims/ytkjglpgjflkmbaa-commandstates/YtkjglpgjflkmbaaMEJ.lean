/-
  Contracts of furlongref10: leases, lists of leases and of queues that are alike.
  Contracts of furlongref10: two states that are alike.
  Contracts of furlongref10: a state's bytes.
  Contracts of furlongref10: a task, an entry with memory of its own.
  Contracts of furlongref10: leases with memory of their own.
  Contracts of furlongref10: a state with memory of its own.
-/
import Derived.Test.YtkjglpgjflkmbaaMED
import Derived.Test.YtkjglpgjflkmbaaMCZ
import Derived.Test.YtkjglpgjflkmbaaMEA
import Derived.Test.YtkjglpgjflkmbaaMCX
import Derived.Test.YtkjglpgjflkmbaaMCH
namespace Go.Proofs.Ytkjglpgjflkmbaa
open Go.RowKit Go.Deep Go.Maps
set_option linter.unusedVariables false
set_option linter.unusedSimpArgs false

set_option maxRecDepth 100000 in
set_option maxHeartbeats 4000000 in
theorem slease_any (la lb lc ld le lf : Int) (lh : Bool) (ta tb : Option Addr) (tn ca cb : Nat) (tk : List Int) (w : World) (h1 : HoldsN w ta tn ca tk) (h2 : HoldsN w tb tn cb tk) (hm : tn ≤ 140737488355328) :
    Calls Try.prog 84 #[.agg #[.int .i64 la, .int .i64 lb, .int .i64 lc, .slice ta tn ca, .int .i64 ld, .int .i64 le, .int .i64 lf, .bool lh], .agg #[.int .i64 la, .int .i64 lb, .int .i64 lc, .slice tb tn cb, .int .i64 ld, .int .i64 le, .int .i64 lf, .bool lh]] w fun e w' => e = .returned (.bool true) ∧ Below w.heap.size w w' := by
  go_enter Try.func84, Try.ntmps84
  go_upto_region 1 with fail
  have B0 := ((Below.refl w.heap.size w).alloc (Nat.le_refl _) (.cells #[.int .i64 la, .int .i64 lb, .int .i64 lc, .slice ta tn ca, .int .i64 ld, .int .i64 le, .int .i64 lf, .bool lh] 138)).alloc (by simp) (.cells #[.int .i64 la, .int .i64 lb, .int .i64 lc, .slice tb tn cb, .int .i64 ld, .int .i64 le, .int .i64 lf, .bool lh] 138)
  have C := hid (ints_any ta tb tn ca cb tk _ (h1.below B0) (h2.below B0) hm)
  clear h1 h2
  have tb1 : (lh == lh) = true := by simp
  go_wp2_with fail
  with_reducible refine C.out.mono ?_
  rintro e W1 ⟨rfl, b1⟩
  clear C
  go_wp2_with fail
  go_ret
  exact ⟨rfl, B0.trans (b1.mono (by simp <;> omega))⟩
/-- Two leases, two tasks are alike, wherever their numbers lie. -/
def LeSame (x y : Le) : Prop := x.ta = y.ta ∧ x.qu = y.qu ∧ x.no = y.no ∧ x.sl = y.sl ∧ x.me = y.me ∧ x.si = y.si ∧ x.un = y.un ∧ x.st = y.st ∧ x.co = y.co
def TaSame (x y : T7) : Prop := x.t1 = y.t1 ∧ x.t2 = y.t2 ∧ x.c = y.c ∧ x.m = y.m ∧ x.wk = y.wk ∧ x.sl = y.sl ∧ x.st = y.st ∧ x.tk = y.tk
theorem slease_el (x y : Le) (w : World) (h1 : HoldsN w x.sa x.sl x.sc x.co) (h2 : HoldsN w y.sa y.sl y.sc y.co) (hs : LeSame x y) (hm : x.sl ≤ 140737488355328) :
    Calls Try.prog 84 #[.agg x.cs.toArray, .agg y.cs.toArray] w fun e w' => e = .returned (.bool true) ∧ Below w.heap.size w w' := by
  obtain ⟨a, b, c, sa, sl, sc, d, e, f, g, co⟩ := x
  obtain ⟨a', b', c', sa', sl', sc', d', e', f', g', co'⟩ := y
  obtain ⟨h1', h2', h3', h4', h5', h6', h7', h8', h9'⟩ := hs
  simp only at h1' h2' h3' h4' h5' h6' h7' h8' h9'
  subst h1' h2' h3' h4' h5' h6' h7' h8' h9'
  exact slease_any a b c d e f g sa sa' sl sc sc' co w h1 h2 hm
theorem stask_el (x y : T7) (w : World) (h1 : HoldsN w x.sa x.sl x.sc x.tk) (h2 : HoldsN w y.sa y.sl y.sc y.tk) (hs : TaSame x y) (hm : x.sl ≤ 140737488355328) :
    Calls Try.prog 38 #[.agg x.cs.toArray, .agg y.cs.toArray] w fun e w' => e = .returned (.bool true) ∧ Below w.heap.size w w' := by
  obtain ⟨t1, t2, c, m, wk, sa, sl, sc, st, tk⟩ := x
  obtain ⟨t1', t2', c', m', wk', sa', sl', sc', st', tk'⟩ := y
  obtain ⟨h1', h2', h3', h4', h5', h6', h7', h8'⟩ := hs
  simp only at h1' h2' h3' h4' h5' h6' h7' h8'
  subst h1' h2' h3' h4' h5' h6' h7' h8'
  exact stask_any t1 t2 c m wk sa sa' sl sc sc' tk st w h1 h2 hm
theorem rangeAt_drew {w : World} {b o : Nat} {cs : List Value} (h : w.rangeAt b o cs) : w.drew.rangeAt b o cs := h
theorem neq_q7v (a b c d e f g : Int) (w : World) : Sem.run Try.prog (binOp BinOp.neq 25 (.agg #[.int .i64 a, .int .i64 b, .int .i64 c, .int .i64 d, .int .i64 e, .int .i64 f, .int .i64 g]) (.agg #[.int .i64 a, .int .i64 b, .int .i64 c, .int .i64 d, .int .i64 e, .int .i64 f, .int .i64 g])) w = .ok (.bool false) w := by
  have hS : Try.prog.underlying 25 = some (.struct (Try.prog.fieldsOf 25)) := by kernel_rfl
  have hp : Try.prog.stoodInHeld 25 = false := by kernel_rfl
  have u3 := Try.underlying3
  have a3 := Try.isAgg3
  have z3 := Try.sizeOf3
  have u2 := Try.underlying2
  have a2 := Try.isAgg2
  have z2 := Try.sizeOf2
  have hS2 : Try.prog.underlying 23 = some (.struct (Try.prog.fieldsOf 23)) := by kernel_rfl
  have hp2 : Try.prog.stoodInHeld 23 = false := by kernel_rfl
  have a24 := Try.isAgg23
  have z24 := Try.sizeOf23
  have e24 : ∀ (d : Nat) (x y : Int) (w : World), (Op.equalIn (d + 2) 23 (.agg #[.int .i64 x, .int .i64 y]) (.agg #[.int .i64 x, .int .i64 y])).run Try.prog w = .ok true w := fun d x y w => by
    rw [run_equalIn_agg w (d + 1) 23 _ _ hS2 hp2]
    simp only [Program.fieldsOf, Try.underlying23]
    go_simp
  rw [run_neq_struct, show (10000 : Nat) = 9999 + 1 from rfl, run_equalIn_agg w 9999 25 _ _ hS hp]
  simp only [Program.fieldsOf, Try.underlying25]
  go_simp
theorem neq_n5v (a b c d e : Int) (w : World) : Sem.run Try.prog (binOp BinOp.neq 27 (.agg #[.int .i64 a, .int .i64 b, .int .i64 c, .int .i64 d, .int .i64 e]) (.agg #[.int .i64 a, .int .i64 b, .int .i64 c, .int .i64 d, .int .i64 e])) w = .ok (.bool false) w := by
  have hS : Try.prog.underlying 27 = some (.struct (Try.prog.fieldsOf 27)) := by kernel_rfl
  have hp : Try.prog.stoodInHeld 27 = false := by kernel_rfl
  have u3 := Try.underlying3
  have a3 := Try.isAgg3
  have z3 := Try.sizeOf3
  have u2 := Try.underlying2
  have a2 := Try.isAgg2
  have z2 := Try.sizeOf2
  rw [run_neq_struct, show (10000 : Nat) = 9999 + 1 from rfl, run_equalIn_agg w 9999 27 _ _ hS hp]
  simp only [Program.fieldsOf, Try.underlying27]
  go_simp
theorem neq_h2v (a b : Int) (w : World) : Sem.run Try.prog (binOp BinOp.neq 94 (.agg #[.int .i64 a, .int .i64 b]) (.agg #[.int .i64 a, .int .i64 b])) w = .ok (.bool false) w := by
  have hS : Try.prog.underlying 94 = some (.struct (Try.prog.fieldsOf 94)) := by kernel_rfl
  have hp : Try.prog.stoodInHeld 94 = false := by kernel_rfl
  have u3 := Try.underlying3
  have a3 := Try.isAgg3
  have z3 := Try.sizeOf3
  have u2 := Try.underlying2
  have a2 := Try.isAgg2
  have z2 := Try.sizeOf2
  rw [run_neq_struct, show (10000 : Nat) = 9999 + 1 from rfl, run_equalIn_agg w 9999 94 _ _ hS hp]
  simp only [Program.fieldsOf, Try.underlying94]
  go_simp
theorem neq_q7 (x : Q7) (w : World) : Sem.run Try.prog (binOp BinOp.neq 25 (.agg x.cs.toArray) (.agg x.cs.toArray)) w = .ok (.bool false) w := neq_q7v _ _ _ _ _ _ _ w
theorem neq_n5 (x : N5) (w : World) : Sem.run Try.prog (binOp BinOp.neq 27 (.agg x.cs.toArray) (.agg x.cs.toArray)) w = .ok (.bool false) w := neq_n5v _ _ _ _ _ w
theorem neq_h2 (x : H2) (w : World) : Sem.run Try.prog (binOp BinOp.neq 94 (.agg x.cs.toArray) (.agg x.cs.toArray)) w = .ok (.bool false) w := neq_h2v _ _ w

set_option maxRecDepth 100000 in
set_option maxHeartbeats 4000000 in
theorem squeues_any (a b : Option Addr) (n ca cb : Nat) (qs : List Q7) (w : World) (h1 : HoldsE 7 Q7.cs w a n ca qs) (h2 : HoldsE 7 Q7.cs w b n cb qs) :
    Calls Try.prog 48 #[.slice a n ca, .slice b n cb] w fun e w' => e = .returned (.bool true) ∧ Below w.heap.size w w' := by
  have HN1 := hid h1.1
  have HN2 := hid h2.1
  have RA1 := hid (fun hp => h1.rangeAt hp)
  have RA2 := hid (fun hp => h2.rangeAt hp)
  have hca := h1.2.1
  have hcm := h1.2.2.1
  have hcb := h2.2.1
  have hcn := h2.2.2.1
  clear h1 h2
  go_enter Try.func48, Try.ntmps48
  go_wp2_with fail
  go_loopw [13] (fun i wr => ∃ k : Nat, k ≤ n ∧ i = .int .i64 (k : Int) ∧ Hid (Below w.heap.size w wr)) (fun i _ => n - (intOf i).toNat)
  case atStart => exact ⟨0, by omega, rfl, Below.refl _ _⟩
  case round =>
    obtain ⟨k, hk, rfl, BR⟩ := hrel
    by_cases hlt : k < n
    · have hl1 : k < qs.length := by rw [HN1.out]; exact hlt
      have hl2 : k < qs.length := by rw [HN2.out]; exact hlt
      obtain ⟨b1, o1, rfl, _, RI1⟩ := RA1.out (by omega)
      obtain ⟨b2, o2, rfl, _, RI2⟩ := RA2.out (by omega)
      have G1 := hid (rangeAt_below (RI1 k qs[k] (List.getElem?_eq_getElem hl1)) BR.out)
      have G2 := hid (rangeAt_below (RI2 k qs[k] (List.getElem?_eq_getElem hl2)) BR.out)
      have ka : (0 : Int) ≤ (k : Int) := by omega
      have kb : (k : Int) < (n : Int) := by omega
      clear RI1 RI2
      have NE := neq_q7 qs[k]
      generalize qs[k] = X at *
      go_upto_region 6 with fail
      refine wp_region_held_drew (S := fun W => W.rangeAt b1 (o1 + k * 7) X.cs ∧ W.rangeAt b2 (o2 + k * 7) X.cs) (by kernel_rfl) ⟨G1.out, G2.out⟩ (fun hHeld => ?_)
      refine wpAnyH_take (i := 0) (v := .slice (some ⟨b1, o1, none⟩) n ca) rfl (by kernel_rfl) (by kernel_rfl) (by kernel_rfl) (fun _ _ _ h => h) (Or.inl ⟨by rfl, ?_⟩) (by assumption) ?_
      · (intro w hSw; (try dsimp only at hSw); go_simp)
      (try simp only [Act.put, List.getElem_toArray, List.getElem_cons_succ, List.getElem_cons_zero, List.setIfInBounds_toArray, List.set_cons_zero, List.set_cons_succ])
      refine wpAnyH_take (i := 1) (v := .int .i64 (k : Int)) rfl (by kernel_rfl) (by kernel_rfl) (by kernel_rfl) (fun _ _ _ h => h) (Or.inl ⟨by rfl, ?_⟩) (by assumption) ?_
      · (intro w hSw; (try dsimp only at hSw); go_simp)
      (try simp only [Act.put, List.getElem_toArray, List.getElem_cons_succ, List.getElem_cons_zero, List.setIfInBounds_toArray, List.set_cons_zero, List.set_cons_succ])
      refine wpAnyH_take (i := 2) (v := .pointer (some ⟨b1, o1 + k * 7, none⟩)) rfl (by kernel_rfl) (by kernel_rfl) (by kernel_rfl) (fun _ _ _ h => h) (Or.inl ⟨by rfl, ?_⟩) (by assumption) ?_
      · (intro w hSw; (try dsimp only at hSw); go_simp)
      (try simp only [Act.put, List.getElem_toArray, List.getElem_cons_succ, List.getElem_cons_zero, List.setIfInBounds_toArray, List.set_cons_zero, List.set_cons_succ])
      refine wpAnyH_take (i := 3) (v := .agg (X.cs).toArray) rfl (by kernel_rfl) (by kernel_rfl) (by kernel_rfl) (fun _ _ _ h => h) (yieldsIf_load_mid (by rfl) 25 (.tmp 18) rfl b1 (o1 + k * 7) rfl (X.cs) _ (fun W hW => hW.1) Try.underlying25 rfl sizeQue) (by assumption) ?_
      (try simp only [Act.put, List.getElem_toArray, List.getElem_cons_succ, List.getElem_cons_zero, List.setIfInBounds_toArray, List.set_cons_zero, List.set_cons_succ])
      refine wpAnyH_take (i := 4) (v := .slice (some ⟨b2, o2, none⟩) n cb) rfl (by kernel_rfl) (by kernel_rfl) (by kernel_rfl) (fun _ _ _ h => h) (Or.inl ⟨by rfl, ?_⟩) (by assumption) ?_
      · (intro w hSw; (try dsimp only at hSw); go_simp)
      (try simp only [Act.put, List.getElem_toArray, List.getElem_cons_succ, List.getElem_cons_zero, List.setIfInBounds_toArray, List.set_cons_zero, List.set_cons_succ])
      refine wpAnyH_take (i := 5) (v := .int .i64 (k : Int)) rfl (by kernel_rfl) (by kernel_rfl) (by kernel_rfl) (fun _ _ _ h => h) (Or.inl ⟨by rfl, ?_⟩) (by assumption) ?_
      · (intro w hSw; (try dsimp only at hSw); go_simp)
      (try simp only [Act.put, List.getElem_toArray, List.getElem_cons_succ, List.getElem_cons_zero, List.setIfInBounds_toArray, List.set_cons_zero, List.set_cons_succ])
      refine wpAnyH_take (i := 6) (v := .pointer (some ⟨b2, o2 + k * 7, none⟩)) rfl (by kernel_rfl) (by kernel_rfl) (by kernel_rfl) (fun _ _ _ h => h) (Or.inl ⟨by rfl, ?_⟩) (by assumption) ?_
      · (intro w hSw; (try dsimp only at hSw); go_simp)
      (try simp only [Act.put, List.getElem_toArray, List.getElem_cons_succ, List.getElem_cons_zero, List.setIfInBounds_toArray, List.set_cons_zero, List.set_cons_succ])
      refine wpAnyH_take (i := 7) (v := .agg (X.cs).toArray) rfl (by kernel_rfl) (by kernel_rfl) (by kernel_rfl) (fun _ _ _ h => h) (yieldsIf_load_mid (by rfl) 25 (.tmp 22) rfl b2 (o2 + k * 7) rfl (X.cs) _ (fun W hW => hW.2) Try.underlying25 rfl sizeQue) (by assumption) ?_
      (try simp only [Act.put, List.getElem_toArray, List.getElem_cons_succ, List.getElem_cons_zero, List.setIfInBounds_toArray, List.set_cons_zero, List.set_cons_succ])
      refine wpAnyH_take (i := 8) (v := .bool false) rfl (by kernel_rfl) (by kernel_rfl) (by kernel_rfl) (fun _ _ _ h => h) (Or.inl ⟨by rfl, ?_⟩) (by assumption) ?_
      · (intro w hSw; (try dsimp only at hSw); go_simp)
      (try simp only [Act.put, List.getElem_toArray, List.getElem_cons_succ, List.getElem_cons_zero, List.setIfInBounds_toArray, List.set_cons_zero, List.set_cons_succ])
      refine wpAnyH_done (by kernel_rfl) ?_ _
      clear hHeld
      have BD := hid (BR.out.drew)
      clear NE G1 G2
      go_wp2_with fail
      refine ⟨⟨k + 1, by omega, by go_num, BD⟩, ?_⟩
      simp [intOf]; omega
    · obtain rfl : n = k := by omega
      go_wp2_with fail
      go_ret
      exact ⟨rfl, BR.out⟩

set_option maxRecDepth 100000 in
set_option maxHeartbeats 4000000 in
theorem sleases_any (a b : Option Addr) (n ca cb : Nat) (ls ls' : List Le) (w : World) (h1 : HoldsE 8 Le.cs w a n ca ls) (h2 : HoldsE 8 Le.cs w b n cb ls') (ha1 : ∀ x ∈ ls, HoldsN w x.sa x.sl x.sc x.co) (ha2 : ∀ x ∈ ls', HoldsN w x.sa x.sl x.sc x.co) (hs : ∀ k (g1 : k < ls.length) (g2 : k < ls'.length), LeSame ls[k] ls'[k]) (hm : ∀ x ∈ ls, x.sl ≤ 140737488355328) :
    Calls Try.prog 49 #[.slice a n ca, .slice b n cb] w fun e w' => e = .returned (.bool true) ∧ Below w.heap.size w w' := by
  have HA1 := hid ha1
  have HA2 := hid ha2
  have HS := hid hs
  have HM := hid hm
  have HN1 := hid h1.1
  have HN2 := hid h2.1
  have RA1 := hid (fun hp => h1.rangeAt hp)
  have RA2 := hid (fun hp => h2.rangeAt hp)
  have hca := h1.2.1
  have hcm := h1.2.2.1
  have hcb := h2.2.1
  have hcn := h2.2.2.1
  clear h1 h2 ha1 ha2 hs hm
  go_enter Try.func49, Try.ntmps49
  go_wp2_with fail
  go_loopw [13] (fun i wr => ∃ k : Nat, k ≤ n ∧ i = .int .i64 (k : Int) ∧ Hid (Below w.heap.size w wr)) (fun i _ => n - (intOf i).toNat)
  case atStart => exact ⟨0, by omega, rfl, Below.refl _ _⟩
  case round =>
    obtain ⟨k, hk, rfl, BR⟩ := hrel
    by_cases hlt : k < n
    · have hl1 : k < ls.length := by rw [HN1.out]; exact hlt
      have hl2 : k < ls'.length := by rw [HN2.out]; exact hlt
      obtain ⟨b1, o1, rfl, _, RI1⟩ := RA1.out (by omega)
      obtain ⟨b2, o2, rfl, _, RI2⟩ := RA2.out (by omega)
      have G1 := hid (rangeAt_below (RI1 k ls[k] (List.getElem?_eq_getElem hl1)) BR.out)
      have G2 := hid (rangeAt_below (RI2 k ls'[k] (List.getElem?_eq_getElem hl2)) BR.out)
      have ka : (0 : Int) ≤ (k : Int) := by omega
      have kb : (k : Int) < (n : Int) := by omega
      clear RI1 RI2
      have CS := hid (fun W (H : Below w.heap.size w W) => slease_el ls[k] ls'[k] W ((HA1.out _ (List.getElem_mem hl1)).below H) ((HA2.out _ (List.getElem_mem hl2)).below H) (HS.out k hl1 hl2) (HM.out _ (List.getElem_mem hl1)))
      have HK1 : Hid (ls[k].cs.length = 8) := rfl
      have HK2 : Hid (ls'[k].cs.length = 8) := rfl
      generalize ls[k].cs = X at *
      generalize ls'[k].cs = Y at *
      have BD := hid (BR.out.drew)
      go_upto_region 6 with fail
      refine wp_region_held_drew (S := fun W => W.rangeAt b1 (o1 + k * 8) X ∧ W.rangeAt b2 (o2 + k * 8) Y) (by kernel_rfl) ⟨G1.out, G2.out⟩ (fun hHeld => ?_)
      refine wpAnyH_take (i := 0) (v := .slice (some ⟨b1, o1, none⟩) n ca) rfl (by kernel_rfl) (by kernel_rfl) (by kernel_rfl) (fun _ _ _ h => h) (Or.inl ⟨by rfl, ?_⟩) (by assumption) ?_
      · (intro w hSw; (try dsimp only at hSw); go_simp)
      (try simp only [Act.put, List.getElem_toArray, List.getElem_cons_succ, List.getElem_cons_zero, List.setIfInBounds_toArray, List.set_cons_zero, List.set_cons_succ])
      refine wpAnyH_take (i := 1) (v := .int .i64 (k : Int)) rfl (by kernel_rfl) (by kernel_rfl) (by kernel_rfl) (fun _ _ _ h => h) (Or.inl ⟨by rfl, ?_⟩) (by assumption) ?_
      · (intro w hSw; (try dsimp only at hSw); go_simp)
      (try simp only [Act.put, List.getElem_toArray, List.getElem_cons_succ, List.getElem_cons_zero, List.setIfInBounds_toArray, List.set_cons_zero, List.set_cons_succ])
      refine wpAnyH_take (i := 2) (v := .pointer (some ⟨b1, o1 + k * 8, none⟩)) rfl (by kernel_rfl) (by kernel_rfl) (by kernel_rfl) (fun _ _ _ h => h) (Or.inl ⟨by rfl, ?_⟩) (by assumption) ?_
      · (intro w hSw; (try dsimp only at hSw); go_simp)
      (try simp only [Act.put, List.getElem_toArray, List.getElem_cons_succ, List.getElem_cons_zero, List.setIfInBounds_toArray, List.set_cons_zero, List.set_cons_succ])
      refine wpAnyH_take (i := 3) (v := .agg (X).toArray) rfl (by kernel_rfl) (by kernel_rfl) (by kernel_rfl) (fun _ _ _ h => h) (yieldsIf_load_mid (by rfl) 138 (.tmp 18) rfl b1 (o1 + k * 8) rfl (X) _ (fun W hW => hW.1) Try.underlying138 rfl (by rw [HK1.out]; exact sizeLease)) (by assumption) ?_
      (try simp only [Act.put, List.getElem_toArray, List.getElem_cons_succ, List.getElem_cons_zero, List.setIfInBounds_toArray, List.set_cons_zero, List.set_cons_succ])
      refine wpAnyH_take (i := 4) (v := .slice (some ⟨b2, o2, none⟩) n cb) rfl (by kernel_rfl) (by kernel_rfl) (by kernel_rfl) (fun _ _ _ h => h) (Or.inl ⟨by rfl, ?_⟩) (by assumption) ?_
      · (intro w hSw; (try dsimp only at hSw); go_simp)
      (try simp only [Act.put, List.getElem_toArray, List.getElem_cons_succ, List.getElem_cons_zero, List.setIfInBounds_toArray, List.set_cons_zero, List.set_cons_succ])
      refine wpAnyH_take (i := 5) (v := .int .i64 (k : Int)) rfl (by kernel_rfl) (by kernel_rfl) (by kernel_rfl) (fun _ _ _ h => h) (Or.inl ⟨by rfl, ?_⟩) (by assumption) ?_
      · (intro w hSw; (try dsimp only at hSw); go_simp)
      (try simp only [Act.put, List.getElem_toArray, List.getElem_cons_succ, List.getElem_cons_zero, List.setIfInBounds_toArray, List.set_cons_zero, List.set_cons_succ])
      refine wpAnyH_take (i := 6) (v := .pointer (some ⟨b2, o2 + k * 8, none⟩)) rfl (by kernel_rfl) (by kernel_rfl) (by kernel_rfl) (fun _ _ _ h => h) (Or.inl ⟨by rfl, ?_⟩) (by assumption) ?_
      · (intro w hSw; (try dsimp only at hSw); go_simp)
      (try simp only [Act.put, List.getElem_toArray, List.getElem_cons_succ, List.getElem_cons_zero, List.setIfInBounds_toArray, List.set_cons_zero, List.set_cons_succ])
      refine wpAnyH_take (i := 7) (v := .agg (Y).toArray) rfl (by kernel_rfl) (by kernel_rfl) (by kernel_rfl) (fun _ _ _ h => h) (yieldsIf_load_mid (by rfl) 138 (.tmp 22) rfl b2 (o2 + k * 8) rfl (Y) _ (fun W hW => hW.2) Try.underlying138 rfl (by rw [HK2.out]; exact sizeLease)) (by assumption) ?_
      (try simp only [Act.put, List.getElem_toArray, List.getElem_cons_succ, List.getElem_cons_zero, List.setIfInBounds_toArray, List.set_cons_zero, List.set_cons_succ])
      refine wpAnyH_ready (rs := [8]) (by kernel_rfl) (by simp) ?_
      refine AllReadyH.cons rfl (fun K hK => ?_) AllReadyH.nil
      go_simp
      with_reducible refine (CS.out _ BD.out).mono ?_
      rintro e W2 ⟨rfl, bx⟩
      have BE := hid (BD.out.trans (bx.mono BD.out.size))
      refine hK.out _ _ ⟨rangeAt_below (rangeAt_drew G1.out) bx, rangeAt_below (rangeAt_drew G2.out) bx⟩ (fun hHeld => ?_)
      clear hK K bx CS
      (try simp only [Act.put, List.getElem_toArray, List.getElem_cons_succ, List.getElem_cons_zero, List.setIfInBounds_toArray, List.set_cons_zero, List.set_cons_succ])
      refine wpAnyH_take (i := 9) (v := .bool false) rfl (by kernel_rfl) (by kernel_rfl) (by kernel_rfl) (fun _ _ _ h => h) (Or.inl ⟨by rfl, ?_⟩) (by assumption) ?_
      · (intro w hSw; (try dsimp only at hSw); go_simp)
      (try simp only [Act.put, List.getElem_toArray, List.getElem_cons_succ, List.getElem_cons_zero, List.setIfInBounds_toArray, List.set_cons_zero, List.set_cons_succ])
      refine wpAnyH_done (by kernel_rfl) ?_ _
      clear hHeld G1 G2 BD
      go_wp2_with fail
      refine ⟨⟨k + 1, by omega, by go_num, BE⟩, ?_⟩
      simp [intOf]; omega
    · obtain rfl : n = k := by omega
      go_wp2_with fail
      go_ret
      exact ⟨rfl, BR.out⟩
end Go.Proofs.Ytkjglpgjflkmbaa

namespace Go.Proofs.Ytkjglpgjflkmbaa
open Go.RowKit Go.Deep Go.Maps
set_option linter.unusedVariables false
set_option linter.unusedSimpArgs false

set_option maxRecDepth 100000 in
set_option maxHeartbeats 16000000 in
theorem sstate_any (lo pa no : Int) (qa qb : Option Addr) (qn qc qd : Nat) (qs : List Q7) (na nb : Option Addr) (nn nc nd : Nat) (ns : List N5) (ta tb : Option Addr) (tn tc td : Nat) (ts ts' : List T7) (la lb : Option Addr) (ln lc ld : Nat) (ls ls' : List Le) (ha hb : Option Addr) (hn hc hd : Nat) (hs : List H2) (w : World) (hq1 : HoldsE 7 Q7.cs w qa qn qc qs) (hq2 : HoldsE 7 Q7.cs w qb qn qd qs) (hn1 : HoldsE 5 N5.cs w na nn nc ns) (hn2 : HoldsE 5 N5.cs w nb nn nd ns) (ht1 : HoldsE 7 T7.cs w ta tn tc ts) (ht2 : HoldsE 7 T7.cs w tb tn td ts') (ta1 : ∀ x ∈ ts, HoldsN w x.sa x.sl x.sc x.tk) (ta2 : ∀ x ∈ ts', HoldsN w x.sa x.sl x.sc x.tk) (tas : ∀ k (g1 : k < ts.length) (g2 : k < ts'.length), TaSame ts[k] ts'[k]) (tam : ∀ x ∈ ts, x.sl ≤ 140737488355328) (hl1 : HoldsE 8 Le.cs w la ln lc ls) (hl2 : HoldsE 8 Le.cs w lb ln ld ls') (la1 : ∀ x ∈ ls, HoldsN w x.sa x.sl x.sc x.co) (la2 : ∀ x ∈ ls', HoldsN w x.sa x.sl x.sc x.co) (las : ∀ k (g1 : k < ls.length) (g2 : k < ls'.length), LeSame ls[k] ls'[k]) (lam : ∀ x ∈ ls, x.sl ≤ 140737488355328) (hh1 : HoldsE 2 H2.cs w ha hn hc hs) (hh2 : HoldsE 2 H2.cs w hb hn hd hs) :
    Calls Try.prog 21 #[.agg #[.int .i64 lo, .int .i64 pa, .int .i64 no, .slice qa qn qc, .slice na nn nc, .slice ta tn tc, .slice la ln lc, .slice ha hn hc], .agg #[.int .i64 lo, .int .i64 pa, .int .i64 no, .slice qb qn qd, .slice nb nn nd, .slice tb tn td, .slice lb ln ld, .slice hb hn hd]] w fun e w' => e = .returned (.bool true) ∧ Below w.heap.size w w' := by
  have RAN1 := hid (fun hp => hn1.rangeAt hp)
  have RAN2 := hid (fun hp => hn2.rangeAt hp)
  have HNN1 := hid hn1.1
  have HNN2 := hid hn2.1
  have uN1 := hn1.2.1
  have uN2 := hn1.2.2.1
  have uN3 := hn2.2.1
  have uN4 := hn2.2.2.1
  have RAT1 := hid (fun hp => ht1.rangeAt hp)
  have RAT2 := hid (fun hp => ht2.rangeAt hp)
  have HNT1 := hid ht1.1
  have HNT2 := hid ht2.1
  have uT1 := ht1.2.1
  have uT2 := ht1.2.2.1
  have uT3 := ht2.2.1
  have uT4 := ht2.2.2.1
  have RAH1 := hid (fun hp => hh1.rangeAt hp)
  have RAH2 := hid (fun hp => hh2.rangeAt hp)
  have HNH1 := hid hh1.1
  have HNH2 := hid hh2.1
  have uH1 := hh1.2.1
  have uH2 := hh1.2.2.1
  have uH3 := hh2.2.1
  have uH4 := hh2.2.2.1
  have uq := hq1.2
  have ul := hl1.2
  have CQ := hid (fun W (H : Below w.heap.size w W) => squeues_any qa qb qn qc qd qs W (hq1.below H) (hq2.below H))
  have CL := hid (fun W (H : Below w.heap.size w W) => sleases_any la lb ln lc ld ls ls' W (hl1.below H) (hl2.below H) (fun x hx => (la1 x hx).below H) (fun x hx => (la2 x hx).below H) las lam)
  have CT := hid (fun k (g1 : k < ts.length) (g2 : k < ts'.length) W (H : Below w.heap.size w W) => stask_el ts[k] ts'[k] W ((ta1 _ (List.getElem_mem g1)).below H) ((ta2 _ (List.getElem_mem g2)).below H) (tas k g1 g2) (tam _ (List.getElem_mem g1)))
  clear hq1 hq2 hn1 hn2 ht1 ht2 ta1 ta2 tas tam hl1 hl2 la1 la2 las lam hh1 hh2
  go_enter Try.func21, Try.ntmps21
  go_upto_region 1 with fail
  have B0 := hid (((Below.refl w.heap.size w).alloc (Nat.le_refl _) (.cells #[.int .i64 lo, .int .i64 pa, .int .i64 no, .slice qa qn qc, .slice na nn nc, .slice ta tn tc, .slice la ln lc, .slice ha hn hc] 54)).alloc (by simp) (.cells #[.int .i64 lo, .int .i64 pa, .int .i64 no, .slice qb qn qd, .slice nb nn nd, .slice tb tn td, .slice lb ln ld, .slice hb hn hd] 54))
  have X1 := hid ((Blk.alloc w #[.int .i64 lo, .int .i64 pa, .int .i64 no, .slice qa qn qc, .slice na nn nc, .slice ta tn tc, .slice la ln lc, .slice ha hn hc] (54)).below ((Below.refl _ _).alloc (Nat.le_refl _) (.cells #[.int .i64 lo, .int .i64 pa, .int .i64 no, .slice qb qn qd, .slice nb nn nd, .slice tb tn td, .slice lb ln ld, .slice hb hn hd] 54)))
  have X2 := hid (Blk.alloc (w.alloc (.cells #[.int .i64 lo, .int .i64 pa, .int .i64 no, .slice qa qn qc, .slice na nn nc, .slice ta tn tc, .slice la ln lc, .slice ha hn hc] 54)) #[.int .i64 lo, .int .i64 pa, .int .i64 no, .slice qb qn qd, .slice nb nn nd, .slice tb tn td, .slice lb ln ld, .slice hb hn hd] (54))
  have zs : (w.alloc (.cells #[.int .i64 lo, .int .i64 pa, .int .i64 no, .slice qa qn qc, .slice na nn nc, .slice ta tn tc, .slice la ln lc, .slice ha hn hc] 54)).heap.size = w.heap.size + 1 := by simp
  rw [zs] at X2
  clear zs
  generalize ((w.alloc (.cells #[.int .i64 lo, .int .i64 pa, .int .i64 no, .slice qa qn qc, .slice na nn nc, .slice ta tn tc, .slice la ln lc, .slice ha hn hc] 54)).alloc (.cells #[.int .i64 lo, .int .i64 pa, .int .i64 no, .slice qb qn qd, .slice nb nn nd, .slice tb tn td, .slice lb ln ld, .slice hb hn hd] 54)) = W0 at *
  have y0 := X1.out.boxE 0 (.int .i64 lo) rfl
  have z0 := X2.out.boxE 0 (.int .i64 lo) rfl
  have y1 := X1.out.boxE 1 (.int .i64 pa) rfl
  have z1 := X2.out.boxE 1 (.int .i64 pa) rfl
  have y2 := X1.out.boxE 2 (.int .i64 no) rfl
  have z2 := X2.out.boxE 2 (.int .i64 no) rfl
  have y3 := X1.out.boxE 3 (.slice qa qn qc) rfl
  have z3 := X2.out.boxE 3 (.slice qb qn qd) rfl
  have y4 := X1.out.boxE 4 (.slice na nn nc) rfl
  have z4 := X2.out.boxE 4 (.slice nb nn nd) rfl
  have y5 := X1.out.boxE 5 (.slice ta tn tc) rfl
  have z5 := X2.out.boxE 5 (.slice tb tn td) rfl
  have y6 := X1.out.boxE 6 (.slice la ln lc) rfl
  have z6 := X2.out.boxE 6 (.slice lb ln ld) rfl
  have y7 := X1.out.boxE 7 (.slice ha hn hc) rfl
  have z7 := X2.out.boxE 7 (.slice hb hn hd) rfl
  go_wp2_with fail
  clear y0 z0 y1 z1 y2 z2 y3 z3 y4 z4 y5 z5 y6 z6 y7 z7
  have y4 := X1.out.boxE 4 (.slice na nn nc) rfl
  have z4 := X2.out.boxE 4 (.slice nb nn nd) rfl
  go_loopw [57] (fun i wr => ∃ k : Nat, k ≤ nn ∧ i = .int .i64 (k : Int) ∧ Hid (Below W0.heap.size W0 wr)) (fun i _ => nn - (intOf i).toNat)
  case atStart => exact ⟨0, by omega, rfl, Below.refl _ _⟩
  case round =>
    obtain ⟨k, hk, rfl, KR⟩ := hrel
    have BR := hid (B0.out.trans (KR.out.mono B0.out.size))
    have XX1 := hid (X1.out.below KR.out)
    have XX2 := hid (X2.out.below KR.out)
    by_cases hlt : k < nn
    · have hl1 : k < ns.length := by rw [HNN1.out]; exact hlt
      have hl2 : k < ns.length := by rw [HNN2.out]; exact hlt
      obtain ⟨b1, o1, e1, _, RI1⟩ := RAN1.out (by omega)
      obtain ⟨b2, o2, e2, _, RI2⟩ := RAN2.out (by omega)
      subst e1 e2
      have G1 := hid (rangeAt_below (RI1 k ns[k] (List.getElem?_eq_getElem hl1)) BR.out)
      have G2 := hid (rangeAt_below (RI2 k ns[k] (List.getElem?_eq_getElem hl2)) BR.out)
      have ka : (0 : Int) ≤ (k : Int) := by omega
      have kb : (k : Int) < (nn : Int) := by omega
      clear RI1 RI2
      have NE := neq_n5 ns[k]
      generalize ns[k] = X at *
      go_upto_region 6 with fail
      have D1 : wr.drew.cell? ⟨w.heap.size, 4, none⟩ = some (.slice (some ⟨b1, o1, none⟩) nn nc) := XX1.out.boxE 4 (.slice (some ⟨b1, o1, none⟩) nn nc) rfl
      have D2 : wr.drew.cell? ⟨w.heap.size + 1, 4, none⟩ = some (.slice (some ⟨b2, o2, none⟩) nn nd) := XX2.out.boxE 4 (.slice (some ⟨b2, o2, none⟩) nn nd) rfl
      refine wp_region_held_drew (S := fun W => W.cell? ⟨w.heap.size, 4, none⟩ = some (.slice (some ⟨b1, o1, none⟩) nn nc) ∧ W.cell? ⟨w.heap.size + 1, 4, none⟩ = some (.slice (some ⟨b2, o2, none⟩) nn nd) ∧ W.rangeAt b1 (o1 + k * 5) X.cs ∧ W.rangeAt b2 (o2 + k * 5) X.cs) (by kernel_rfl) ⟨D1, D2, G1.out, G2.out⟩ (fun hHeld => ?_)
      refine wpAnyH_take (i := 0) (v := .pointer (some ⟨w.heap.size, 4, none⟩)) rfl (by kernel_rfl) (by kernel_rfl) (by kernel_rfl) (fun _ _ _ h => h) (Or.inl ⟨by rfl, ?_⟩) (by assumption) ?_
      · (intro w hSw; (try dsimp only at hSw); obtain ⟨s1, s2, _, _⟩ := hSw; go_simp)
      (try simp only [Act.put, List.getElem_toArray, List.getElem_cons_succ, List.getElem_cons_zero, List.setIfInBounds_toArray, List.set_cons_zero, List.set_cons_succ])
      refine wpAnyH_take (i := 1) (v := .slice (some ⟨b1, o1, none⟩) nn nc) rfl (by kernel_rfl) (by kernel_rfl) (by kernel_rfl) (fun _ _ _ h => h) (Or.inl ⟨by rfl, ?_⟩) (by assumption) ?_
      · (intro w hSw; (try dsimp only at hSw); obtain ⟨s1, s2, _, _⟩ := hSw; go_simp)
      (try simp only [Act.put, List.getElem_toArray, List.getElem_cons_succ, List.getElem_cons_zero, List.setIfInBounds_toArray, List.set_cons_zero, List.set_cons_succ])
      refine wpAnyH_take (i := 2) (v := .int .i64 (k : Int)) rfl (by kernel_rfl) (by kernel_rfl) (by kernel_rfl) (fun _ _ _ h => h) (Or.inl ⟨by rfl, ?_⟩) (by assumption) ?_
      · (intro w hSw; (try dsimp only at hSw); obtain ⟨s1, s2, _, _⟩ := hSw; go_simp)
      (try simp only [Act.put, List.getElem_toArray, List.getElem_cons_succ, List.getElem_cons_zero, List.setIfInBounds_toArray, List.set_cons_zero, List.set_cons_succ])
      refine wpAnyH_take (i := 3) (v := .pointer (some ⟨b1, o1 + k * 5, none⟩)) rfl (by kernel_rfl) (by kernel_rfl) (by kernel_rfl) (fun _ _ _ h => h) (Or.inl ⟨by rfl, ?_⟩) (by assumption) ?_
      · (intro w hSw; (try dsimp only at hSw); obtain ⟨s1, s2, _, _⟩ := hSw; go_simp)
      (try simp only [Act.put, List.getElem_toArray, List.getElem_cons_succ, List.getElem_cons_zero, List.setIfInBounds_toArray, List.set_cons_zero, List.set_cons_succ])
      refine wpAnyH_take (i := 4) (v := .agg (X.cs).toArray) rfl (by kernel_rfl) (by kernel_rfl) (by kernel_rfl) (fun _ _ _ h => h) (yieldsIf_load_mid (by rfl) 27 (.tmp 63) rfl b1 (o1 + k * 5) rfl (X.cs) _ (fun W hW => hW.2.2.1) Try.underlying27 rfl sizeNod) (by assumption) ?_
      (try simp only [Act.put, List.getElem_toArray, List.getElem_cons_succ, List.getElem_cons_zero, List.setIfInBounds_toArray, List.set_cons_zero, List.set_cons_succ])
      refine wpAnyH_take (i := 5) (v := .pointer (some ⟨w.heap.size + 1, 4, none⟩)) rfl (by kernel_rfl) (by kernel_rfl) (by kernel_rfl) (fun _ _ _ h => h) (Or.inl ⟨by rfl, ?_⟩) (by assumption) ?_
      · (intro w hSw; (try dsimp only at hSw); obtain ⟨s1, s2, _, _⟩ := hSw; go_simp)
      (try simp only [Act.put, List.getElem_toArray, List.getElem_cons_succ, List.getElem_cons_zero, List.setIfInBounds_toArray, List.set_cons_zero, List.set_cons_succ])
      refine wpAnyH_take (i := 6) (v := .slice (some ⟨b2, o2, none⟩) nn nd) rfl (by kernel_rfl) (by kernel_rfl) (by kernel_rfl) (fun _ _ _ h => h) (Or.inl ⟨by rfl, ?_⟩) (by assumption) ?_
      · (intro w hSw; (try dsimp only at hSw); obtain ⟨s1, s2, _, _⟩ := hSw; go_simp)
      (try simp only [Act.put, List.getElem_toArray, List.getElem_cons_succ, List.getElem_cons_zero, List.setIfInBounds_toArray, List.set_cons_zero, List.set_cons_succ])
      refine wpAnyH_take (i := 7) (v := .int .i64 (k : Int)) rfl (by kernel_rfl) (by kernel_rfl) (by kernel_rfl) (fun _ _ _ h => h) (Or.inl ⟨by rfl, ?_⟩) (by assumption) ?_
      · (intro w hSw; (try dsimp only at hSw); obtain ⟨s1, s2, _, _⟩ := hSw; go_simp)
      (try simp only [Act.put, List.getElem_toArray, List.getElem_cons_succ, List.getElem_cons_zero, List.setIfInBounds_toArray, List.set_cons_zero, List.set_cons_succ])
      refine wpAnyH_take (i := 8) (v := .pointer (some ⟨b2, o2 + k * 5, none⟩)) rfl (by kernel_rfl) (by kernel_rfl) (by kernel_rfl) (fun _ _ _ h => h) (Or.inl ⟨by rfl, ?_⟩) (by assumption) ?_
      · (intro w hSw; (try dsimp only at hSw); obtain ⟨s1, s2, _, _⟩ := hSw; go_simp)
      (try simp only [Act.put, List.getElem_toArray, List.getElem_cons_succ, List.getElem_cons_zero, List.setIfInBounds_toArray, List.set_cons_zero, List.set_cons_succ])
      refine wpAnyH_take (i := 9) (v := .agg (X.cs).toArray) rfl (by kernel_rfl) (by kernel_rfl) (by kernel_rfl) (fun _ _ _ h => h) (yieldsIf_load_mid (by rfl) 27 (.tmp 68) rfl b2 (o2 + k * 5) rfl (X.cs) _ (fun W hW => hW.2.2.2) Try.underlying27 rfl sizeNod) (by assumption) ?_
      (try simp only [Act.put, List.getElem_toArray, List.getElem_cons_succ, List.getElem_cons_zero, List.setIfInBounds_toArray, List.set_cons_zero, List.set_cons_succ])
      refine wpAnyH_take (i := 10) (v := .bool false) rfl (by kernel_rfl) (by kernel_rfl) (by kernel_rfl) (fun _ _ _ h => h) (Or.inl ⟨by rfl, ?_⟩) (by assumption) ?_
      · (intro w hSw; (try dsimp only at hSw); obtain ⟨s1, s2, _, _⟩ := hSw; go_simp)
      (try simp only [Act.put, List.getElem_toArray, List.getElem_cons_succ, List.getElem_cons_zero, List.setIfInBounds_toArray, List.set_cons_zero, List.set_cons_succ])
      refine wpAnyH_done (by kernel_rfl) ?_ _
      clear hHeld D1 D2
      have KD := hid (KR.out.drew)
      clear NE G1 G2
      go_wp2_with fail
      refine ⟨⟨k + 1, by omega, by go_num, KD⟩, ?_⟩
      simp [intOf]; omega
    · obtain rfl : nn = k := by omega
      clear X1 X2
      have X1 := hid XX1.out
      have X2 := hid XX2.out
      clear XX1 XX2
      have y5 := X1.out.boxE 5 (.slice ta tn tc) rfl
      have z5 := X2.out.boxE 5 (.slice tb tn td) rfl
      have B0 := hid BR.out
      clear BR KR
      generalize wr = W0 at *
      go_wp2_with fail
      clear y5 z5
      go_loopw [75] (fun i wr => ∃ k : Nat, k ≤ tn ∧ i = .int .i64 (k : Int) ∧ Hid (Below W0.heap.size W0 wr)) (fun i _ => tn - (intOf i).toNat)
      case atStart => exact ⟨0, by omega, rfl, Below.refl _ _⟩
      case round =>
        obtain ⟨k, hk, rfl, KR⟩ := hrel
        have BR := hid (B0.out.trans (KR.out.mono B0.out.size))
        have XX1 := hid (X1.out.below KR.out)
        have XX2 := hid (X2.out.below KR.out)
        by_cases hlt : k < tn
        · have hl1 : k < ts.length := by rw [HNT1.out]; exact hlt
          have hl2 : k < ts'.length := by rw [HNT2.out]; exact hlt
          obtain ⟨b1, o1, e1, _, RI1⟩ := RAT1.out (by omega)
          obtain ⟨b2, o2, e2, _, RI2⟩ := RAT2.out (by omega)
          subst e1 e2
          have G1 := hid (rangeAt_below (RI1 k ts[k] (List.getElem?_eq_getElem hl1)) BR.out)
          have G2 := hid (rangeAt_below (RI2 k ts'[k] (List.getElem?_eq_getElem hl2)) BR.out)
          have ka : (0 : Int) ≤ (k : Int) := by omega
          have kb : (k : Int) < (tn : Int) := by omega
          clear RI1 RI2
          have CS := hid (CT.out k hl1 hl2)
          have HK1 : Hid (ts[k].cs.length = 7) := rfl
          have HK2 : Hid (ts'[k].cs.length = 7) := rfl
          generalize ts[k].cs = X at *
          generalize ts'[k].cs = Y at *
          have BD := hid (BR.out.drew)
          go_upto_region 12 with fail
          have D1 : wr.drew.cell? ⟨w.heap.size, 5, none⟩ = some (.slice (some ⟨b1, o1, none⟩) tn tc) := XX1.out.boxE 5 (.slice (some ⟨b1, o1, none⟩) tn tc) rfl
          have D2 : wr.drew.cell? ⟨w.heap.size + 1, 5, none⟩ = some (.slice (some ⟨b2, o2, none⟩) tn td) := XX2.out.boxE 5 (.slice (some ⟨b2, o2, none⟩) tn td) rfl
          refine wp_region_held_drew (S := fun W => W.cell? ⟨w.heap.size, 5, none⟩ = some (.slice (some ⟨b1, o1, none⟩) tn tc) ∧ W.cell? ⟨w.heap.size + 1, 5, none⟩ = some (.slice (some ⟨b2, o2, none⟩) tn td) ∧ W.rangeAt b1 (o1 + k * 7) X ∧ W.rangeAt b2 (o2 + k * 7) Y) (by kernel_rfl) ⟨D1, D2, G1.out, G2.out⟩ (fun hHeld => ?_)
          refine wpAnyH_take (i := 0) (v := .pointer (some ⟨w.heap.size, 5, none⟩)) rfl (by kernel_rfl) (by kernel_rfl) (by kernel_rfl) (fun _ _ _ h => h) (Or.inl ⟨by rfl, ?_⟩) (by assumption) ?_
          · (intro w hSw; (try dsimp only at hSw); obtain ⟨s1, s2, _, _⟩ := hSw; go_simp)
          (try simp only [Act.put, List.getElem_toArray, List.getElem_cons_succ, List.getElem_cons_zero, List.setIfInBounds_toArray, List.set_cons_zero, List.set_cons_succ])
          refine wpAnyH_take (i := 1) (v := .slice (some ⟨b1, o1, none⟩) tn tc) rfl (by kernel_rfl) (by kernel_rfl) (by kernel_rfl) (fun _ _ _ h => h) (Or.inl ⟨by rfl, ?_⟩) (by assumption) ?_
          · (intro w hSw; (try dsimp only at hSw); obtain ⟨s1, s2, _, _⟩ := hSw; go_simp)
          (try simp only [Act.put, List.getElem_toArray, List.getElem_cons_succ, List.getElem_cons_zero, List.setIfInBounds_toArray, List.set_cons_zero, List.set_cons_succ])
          refine wpAnyH_take (i := 2) (v := .int .i64 (k : Int)) rfl (by kernel_rfl) (by kernel_rfl) (by kernel_rfl) (fun _ _ _ h => h) (Or.inl ⟨by rfl, ?_⟩) (by assumption) ?_
          · (intro w hSw; (try dsimp only at hSw); obtain ⟨s1, s2, _, _⟩ := hSw; go_simp)
          (try simp only [Act.put, List.getElem_toArray, List.getElem_cons_succ, List.getElem_cons_zero, List.setIfInBounds_toArray, List.set_cons_zero, List.set_cons_succ])
          refine wpAnyH_take (i := 3) (v := .pointer (some ⟨b1, o1 + k * 7, none⟩)) rfl (by kernel_rfl) (by kernel_rfl) (by kernel_rfl) (fun _ _ _ h => h) (Or.inl ⟨by rfl, ?_⟩) (by assumption) ?_
          · (intro w hSw; (try dsimp only at hSw); obtain ⟨s1, s2, _, _⟩ := hSw; go_simp)
          (try simp only [Act.put, List.getElem_toArray, List.getElem_cons_succ, List.getElem_cons_zero, List.setIfInBounds_toArray, List.set_cons_zero, List.set_cons_succ])
          refine wpAnyH_take (i := 4) (v := .agg (X).toArray) rfl (by kernel_rfl) (by kernel_rfl) (by kernel_rfl) (fun _ _ _ h => h) (yieldsIf_load_mid (by rfl) 30 (.tmp 81) rfl b1 (o1 + k * 7) rfl (X) _ (fun W hW => hW.2.2.1) Try.underlying30 rfl (by rw [HK1.out]; exact sizeTask)) (by assumption) ?_
          (try simp only [Act.put, List.getElem_toArray, List.getElem_cons_succ, List.getElem_cons_zero, List.setIfInBounds_toArray, List.set_cons_zero, List.set_cons_succ])
          refine wpAnyH_take (i := 5) (v := .pointer (some ⟨w.heap.size + 1, 5, none⟩)) rfl (by kernel_rfl) (by kernel_rfl) (by kernel_rfl) (fun _ _ _ h => h) (Or.inl ⟨by rfl, ?_⟩) (by assumption) ?_
          · (intro w hSw; (try dsimp only at hSw); obtain ⟨s1, s2, _, _⟩ := hSw; go_simp)
          (try simp only [Act.put, List.getElem_toArray, List.getElem_cons_succ, List.getElem_cons_zero, List.setIfInBounds_toArray, List.set_cons_zero, List.set_cons_succ])
          refine wpAnyH_take (i := 6) (v := .slice (some ⟨b2, o2, none⟩) tn td) rfl (by kernel_rfl) (by kernel_rfl) (by kernel_rfl) (fun _ _ _ h => h) (Or.inl ⟨by rfl, ?_⟩) (by assumption) ?_
          · (intro w hSw; (try dsimp only at hSw); obtain ⟨s1, s2, _, _⟩ := hSw; go_simp)
          (try simp only [Act.put, List.getElem_toArray, List.getElem_cons_succ, List.getElem_cons_zero, List.setIfInBounds_toArray, List.set_cons_zero, List.set_cons_succ])
          refine wpAnyH_take (i := 7) (v := .int .i64 (k : Int)) rfl (by kernel_rfl) (by kernel_rfl) (by kernel_rfl) (fun _ _ _ h => h) (Or.inl ⟨by rfl, ?_⟩) (by assumption) ?_
          · (intro w hSw; (try dsimp only at hSw); obtain ⟨s1, s2, _, _⟩ := hSw; go_simp)
          (try simp only [Act.put, List.getElem_toArray, List.getElem_cons_succ, List.getElem_cons_zero, List.setIfInBounds_toArray, List.set_cons_zero, List.set_cons_succ])
          refine wpAnyH_take (i := 8) (v := .pointer (some ⟨b2, o2 + k * 7, none⟩)) rfl (by kernel_rfl) (by kernel_rfl) (by kernel_rfl) (fun _ _ _ h => h) (Or.inl ⟨by rfl, ?_⟩) (by assumption) ?_
          · (intro w hSw; (try dsimp only at hSw); obtain ⟨s1, s2, _, _⟩ := hSw; go_simp)
          (try simp only [Act.put, List.getElem_toArray, List.getElem_cons_succ, List.getElem_cons_zero, List.setIfInBounds_toArray, List.set_cons_zero, List.set_cons_succ])
          refine wpAnyH_take (i := 9) (v := .agg (Y).toArray) rfl (by kernel_rfl) (by kernel_rfl) (by kernel_rfl) (fun _ _ _ h => h) (yieldsIf_load_mid (by rfl) 30 (.tmp 86) rfl b2 (o2 + k * 7) rfl (Y) _ (fun W hW => hW.2.2.2) Try.underlying30 rfl (by rw [HK2.out]; exact sizeTask)) (by assumption) ?_
          (try simp only [Act.put, List.getElem_toArray, List.getElem_cons_succ, List.getElem_cons_zero, List.setIfInBounds_toArray, List.set_cons_zero, List.set_cons_succ])
          refine wpAnyH_ready (rs := [10]) (by kernel_rfl) (by simp) ?_
          refine AllReadyH.cons rfl (fun K hK => ?_) AllReadyH.nil
          go_simp
          with_reducible refine (CS.out _ BD.out).mono ?_
          rintro e W2 ⟨rfl, bx⟩
          have KE := hid ((KR.out.drew).trans (bx.mono KR.out.size))
          refine hK.out _ _ ⟨keepc bx D1, keepc bx D2, rangeAt_below (rangeAt_drew G1.out) bx, rangeAt_below (rangeAt_drew G2.out) bx⟩ (fun hHeld => ?_)
          clear hK K bx CS
          (try simp only [Act.put, List.getElem_toArray, List.getElem_cons_succ, List.getElem_cons_zero, List.setIfInBounds_toArray, List.set_cons_zero, List.set_cons_succ])
          refine wpAnyH_take (i := 11) (v := .bool false) rfl (by kernel_rfl) (by kernel_rfl) (by kernel_rfl) (fun _ _ _ h => h) (Or.inl ⟨by rfl, ?_⟩) (by assumption) ?_
          · (intro w hSw; (try dsimp only at hSw); obtain ⟨s1, s2, _, _⟩ := hSw; go_simp)
          (try simp only [Act.put, List.getElem_toArray, List.getElem_cons_succ, List.getElem_cons_zero, List.setIfInBounds_toArray, List.set_cons_zero, List.set_cons_succ])
          refine wpAnyH_done (by kernel_rfl) ?_ _
          clear hHeld G1 G2 BD D1 D2
          go_wp2_with fail
          refine ⟨⟨k + 1, by omega, by go_num, KE⟩, ?_⟩
          simp [intOf]; omega
        · obtain rfl : tn = k := by omega
          clear X1 X2
          have X1 := hid XX1.out
          have X2 := hid XX2.out
          clear XX1 XX2
          have y7 := X1.out.boxE 7 (.slice ha hn hc) rfl
          have z7 := X2.out.boxE 7 (.slice hb hn hd) rfl
          have B0 := hid BR.out
          clear BR KR
          generalize wr = W0 at *
          go_wp2_with fail
          clear y7 z7
          go_loopw [94] (fun i wr => ∃ k : Nat, k ≤ hn ∧ i = .int .i64 (k : Int) ∧ Hid (Below W0.heap.size W0 wr)) (fun i _ => hn - (intOf i).toNat)
          case atStart => exact ⟨0, by omega, rfl, Below.refl _ _⟩
          case round =>
            obtain ⟨k, hk, rfl, KR⟩ := hrel
            have BR := hid (B0.out.trans (KR.out.mono B0.out.size))
            have XX1 := hid (X1.out.below KR.out)
            have XX2 := hid (X2.out.below KR.out)
            by_cases hlt : k < hn
            · have hl1 : k < hs.length := by rw [HNH1.out]; exact hlt
              have hl2 : k < hs.length := by rw [HNH2.out]; exact hlt
              obtain ⟨b1, o1, e1, _, RI1⟩ := RAH1.out (by omega)
              obtain ⟨b2, o2, e2, _, RI2⟩ := RAH2.out (by omega)
              subst e1 e2
              have G1 := hid (rangeAt_below (RI1 k hs[k] (List.getElem?_eq_getElem hl1)) BR.out)
              have G2 := hid (rangeAt_below (RI2 k hs[k] (List.getElem?_eq_getElem hl2)) BR.out)
              have ka : (0 : Int) ≤ (k : Int) := by omega
              have kb : (k : Int) < (hn : Int) := by omega
              clear RI1 RI2
              have NE := neq_h2 hs[k]
              generalize hs[k] = X at *
              go_upto_region 18 with fail
              have D1 : wr.drew.cell? ⟨w.heap.size, 7, none⟩ = some (.slice (some ⟨b1, o1, none⟩) hn hc) := XX1.out.boxE 7 (.slice (some ⟨b1, o1, none⟩) hn hc) rfl
              have D2 : wr.drew.cell? ⟨w.heap.size + 1, 7, none⟩ = some (.slice (some ⟨b2, o2, none⟩) hn hd) := XX2.out.boxE 7 (.slice (some ⟨b2, o2, none⟩) hn hd) rfl
              refine wp_region_held_drew (S := fun W => W.cell? ⟨w.heap.size, 7, none⟩ = some (.slice (some ⟨b1, o1, none⟩) hn hc) ∧ W.cell? ⟨w.heap.size + 1, 7, none⟩ = some (.slice (some ⟨b2, o2, none⟩) hn hd) ∧ W.rangeAt b1 (o1 + k * 2) X.cs ∧ W.rangeAt b2 (o2 + k * 2) X.cs) (by kernel_rfl) ⟨D1, D2, G1.out, G2.out⟩ (fun hHeld => ?_)
              refine wpAnyH_take (i := 0) (v := .pointer (some ⟨w.heap.size, 7, none⟩)) rfl (by kernel_rfl) (by kernel_rfl) (by kernel_rfl) (fun _ _ _ h => h) (Or.inl ⟨by rfl, ?_⟩) (by assumption) ?_
              · (intro w hSw; (try dsimp only at hSw); obtain ⟨s1, s2, _, _⟩ := hSw; go_simp)
              (try simp only [Act.put, List.getElem_toArray, List.getElem_cons_succ, List.getElem_cons_zero, List.setIfInBounds_toArray, List.set_cons_zero, List.set_cons_succ])
              refine wpAnyH_take (i := 1) (v := .slice (some ⟨b1, o1, none⟩) hn hc) rfl (by kernel_rfl) (by kernel_rfl) (by kernel_rfl) (fun _ _ _ h => h) (Or.inl ⟨by rfl, ?_⟩) (by assumption) ?_
              · (intro w hSw; (try dsimp only at hSw); obtain ⟨s1, s2, _, _⟩ := hSw; go_simp)
              (try simp only [Act.put, List.getElem_toArray, List.getElem_cons_succ, List.getElem_cons_zero, List.setIfInBounds_toArray, List.set_cons_zero, List.set_cons_succ])
              refine wpAnyH_take (i := 2) (v := .int .i64 (k : Int)) rfl (by kernel_rfl) (by kernel_rfl) (by kernel_rfl) (fun _ _ _ h => h) (Or.inl ⟨by rfl, ?_⟩) (by assumption) ?_
              · (intro w hSw; (try dsimp only at hSw); obtain ⟨s1, s2, _, _⟩ := hSw; go_simp)
              (try simp only [Act.put, List.getElem_toArray, List.getElem_cons_succ, List.getElem_cons_zero, List.setIfInBounds_toArray, List.set_cons_zero, List.set_cons_succ])
              refine wpAnyH_take (i := 3) (v := .pointer (some ⟨b1, o1 + k * 2, none⟩)) rfl (by kernel_rfl) (by kernel_rfl) (by kernel_rfl) (fun _ _ _ h => h) (Or.inl ⟨by rfl, ?_⟩) (by assumption) ?_
              · (intro w hSw; (try dsimp only at hSw); obtain ⟨s1, s2, _, _⟩ := hSw; go_simp)
              (try simp only [Act.put, List.getElem_toArray, List.getElem_cons_succ, List.getElem_cons_zero, List.setIfInBounds_toArray, List.set_cons_zero, List.set_cons_succ])
              refine wpAnyH_take (i := 4) (v := .agg (X.cs).toArray) rfl (by kernel_rfl) (by kernel_rfl) (by kernel_rfl) (fun _ _ _ h => h) (yieldsIf_load_mid (by rfl) 94 (.tmp 100) rfl b1 (o1 + k * 2) rfl (X.cs) _ (fun W hW => hW.2.2.1) Try.underlying94 rfl sizeHun) (by assumption) ?_
              (try simp only [Act.put, List.getElem_toArray, List.getElem_cons_succ, List.getElem_cons_zero, List.setIfInBounds_toArray, List.set_cons_zero, List.set_cons_succ])
              refine wpAnyH_take (i := 5) (v := .pointer (some ⟨w.heap.size + 1, 7, none⟩)) rfl (by kernel_rfl) (by kernel_rfl) (by kernel_rfl) (fun _ _ _ h => h) (Or.inl ⟨by rfl, ?_⟩) (by assumption) ?_
              · (intro w hSw; (try dsimp only at hSw); obtain ⟨s1, s2, _, _⟩ := hSw; go_simp)
              (try simp only [Act.put, List.getElem_toArray, List.getElem_cons_succ, List.getElem_cons_zero, List.setIfInBounds_toArray, List.set_cons_zero, List.set_cons_succ])
              refine wpAnyH_take (i := 6) (v := .slice (some ⟨b2, o2, none⟩) hn hd) rfl (by kernel_rfl) (by kernel_rfl) (by kernel_rfl) (fun _ _ _ h => h) (Or.inl ⟨by rfl, ?_⟩) (by assumption) ?_
              · (intro w hSw; (try dsimp only at hSw); obtain ⟨s1, s2, _, _⟩ := hSw; go_simp)
              (try simp only [Act.put, List.getElem_toArray, List.getElem_cons_succ, List.getElem_cons_zero, List.setIfInBounds_toArray, List.set_cons_zero, List.set_cons_succ])
              refine wpAnyH_take (i := 7) (v := .int .i64 (k : Int)) rfl (by kernel_rfl) (by kernel_rfl) (by kernel_rfl) (fun _ _ _ h => h) (Or.inl ⟨by rfl, ?_⟩) (by assumption) ?_
              · (intro w hSw; (try dsimp only at hSw); obtain ⟨s1, s2, _, _⟩ := hSw; go_simp)
              (try simp only [Act.put, List.getElem_toArray, List.getElem_cons_succ, List.getElem_cons_zero, List.setIfInBounds_toArray, List.set_cons_zero, List.set_cons_succ])
              refine wpAnyH_take (i := 8) (v := .pointer (some ⟨b2, o2 + k * 2, none⟩)) rfl (by kernel_rfl) (by kernel_rfl) (by kernel_rfl) (fun _ _ _ h => h) (Or.inl ⟨by rfl, ?_⟩) (by assumption) ?_
              · (intro w hSw; (try dsimp only at hSw); obtain ⟨s1, s2, _, _⟩ := hSw; go_simp)
              (try simp only [Act.put, List.getElem_toArray, List.getElem_cons_succ, List.getElem_cons_zero, List.setIfInBounds_toArray, List.set_cons_zero, List.set_cons_succ])
              refine wpAnyH_take (i := 9) (v := .agg (X.cs).toArray) rfl (by kernel_rfl) (by kernel_rfl) (by kernel_rfl) (fun _ _ _ h => h) (yieldsIf_load_mid (by rfl) 94 (.tmp 105) rfl b2 (o2 + k * 2) rfl (X.cs) _ (fun W hW => hW.2.2.2) Try.underlying94 rfl sizeHun) (by assumption) ?_
              (try simp only [Act.put, List.getElem_toArray, List.getElem_cons_succ, List.getElem_cons_zero, List.setIfInBounds_toArray, List.set_cons_zero, List.set_cons_succ])
              refine wpAnyH_take (i := 10) (v := .bool false) rfl (by kernel_rfl) (by kernel_rfl) (by kernel_rfl) (fun _ _ _ h => h) (Or.inl ⟨by rfl, ?_⟩) (by assumption) ?_
              · (intro w hSw; (try dsimp only at hSw); obtain ⟨s1, s2, _, _⟩ := hSw; go_simp)
              (try simp only [Act.put, List.getElem_toArray, List.getElem_cons_succ, List.getElem_cons_zero, List.setIfInBounds_toArray, List.set_cons_zero, List.set_cons_succ])
              refine wpAnyH_done (by kernel_rfl) ?_ _
              clear hHeld D1 D2
              have KD := hid (KR.out.drew)
              clear NE G1 G2
              go_wp2_with fail
              refine ⟨⟨k + 1, by omega, by go_num, KD⟩, ?_⟩
              simp [intOf]; omega
            · obtain rfl : hn = k := by omega
              clear X1 X2
              have X1 := hid XX1.out
              have X2 := hid XX2.out
              clear XX1 XX2
              have y3 := X1.out.boxE 3 (.slice qa qn qc) rfl
              have z3 := X2.out.boxE 3 (.slice qb qn qd) rfl
              have y6 := X1.out.boxE 6 (.slice la ln lc) rfl
              have z6 := X2.out.boxE 6 (.slice lb ln ld) rfl
              have CQ1 := hid (CQ.out _ BR.out)
              go_wp2_with fail
              with_reducible refine CQ1.out.mono ?_
              clear y3 z3 y6 z6
              rintro e WQ ⟨rfl, bq⟩
              have BQ := hid (BR.out.trans (bq.mono BR.out.size))
              replace X1 := hid (X1.out.below bq)
              replace X2 := hid (X2.out.below bq)
              have CL1 := hid (CL.out _ BQ.out)
              have y6 := X1.out.boxE 6 (.slice la ln lc) rfl
              have z6 := X2.out.boxE 6 (.slice lb ln ld) rfl
              clear bq CQ1
              go_wp2_with fail
              with_reducible refine CL1.out.mono ?_
              clear y6 z6
              rintro e WL ⟨rfl, bl⟩
              have BL := hid (BQ.out.trans (bl.mono BQ.out.size))
              clear CL1 bl
              go_wp2_with fail
              go_ret
              exact ⟨rfl, BL.out⟩
end Go.Proofs.Ytkjglpgjflkmbaa

namespace Go.Proofs.Ytkjglpgjflkmbaa
open Go.RowKit Go.Deep Go.Maps
set_option linter.unusedVariables false
set_option linter.unusedSimpArgs false

theorem flW_eq {α : Type} {fl : α → Bool} {xs : List α} {n : Nat} (h : xs.length = n) : flW fl xs = (decide ((1024 : Int) < (n : Int)) || xs.any fl) := by
  subst h
  unfold flW
  by_cases h : 1024 < xs.length
  · rw [if_pos h, decide_eq_true (by omega)]; rfl
  · rw [if_neg h, decide_eq_false (by omega)]; rfl
theorem flW_f {α : Type} {xs : List α} {n : Nat} (h : xs.length = n) : flW (fun _ => false) xs = decide ((1024 : Int) < (n : Int)) := by
  rw [flW_eq h]
  have : xs.any (fun _ => false) = false := by rw [List.any_eq_false]; intro x _; simp
  rw [this, Bool.or_false]
theorem flag_eq : ∀ (D1 D2 D3 D4 D5 A : Bool), (D1 || (D2 || ((D3 || A) || (D5 || D4)))) = ((D1 || (D2 || (D3 || (D4 || D5)))) || A) := by decide
theorem rcount2_any (n : Nat) (w : World) (hn : (n : Int) ≤ 9223372036854775807) :
    Calls Try.prog 47 #[.int .i64 n] w fun e w' => ∃ v, e = .returned v ∧ Own w.heap.size w' v (numB (n : Int)).length (numB (n : Int)) ∧ Below w.heap.size w w' := by
  rw [numB_len]
  exact rcount_any n w hn
theorem listW_at {α : Type} {en : α → List Int} {xs : List α} {n : Nat} (h : xs.length = n) (hn : n ≤ 1024) : listW en xs = numB (n : Int) ++ xs.flatMap en := by
  subst h; rw [listW_no hn]; rfl
set_option maxRecDepth 100000 in
set_option maxHeartbeats 16000000 in
theorem rstate_any (lo pa no : Int) (qa : Option Addr) (qn qc : Nat) (qs : List Q7) (na : Option Addr) (nn nc : Nat) (ns : List N5) (ta : Option Addr) (tn tc : Nat) (ts : List T7) (la : Option Addr) (ln lc : Nat) (ls : List Le) (ha : Option Addr) (hn hc : Nat) (hs : List H2) (w : World) (ilo : I64 lo) (ipa : I64 pa) (ino : I64 no) (hqs : HoldsE 7 Q7.cs w qa qn qc qs) (hqk : ∀ x ∈ qs, x.ok) (hns : HoldsE 5 N5.cs w na nn nc ns) (hnk : ∀ x ∈ ns, x.ok) (hts : HoldsE 7 T7.cs w ta tn tc ts) (hta : TaAll w ts) (hls : HoldsE 8 Le.cs w la ln lc ls) (hla : LeAll w ls) (hhs : HoldsE 2 H2.cs w ha hn hc hs) (hhk : ∀ x ∈ hs, x.ok) :
    Calls Try.prog 20 #[.agg #[.int .i64 lo, .int .i64 pa, .int .i64 no, .slice qa qn qc, .slice na nn nc, .slice ta tn tc, .slice la ln lc, .slice ha hn hc]] w fun e w' => ∃ v, e = .returned (.tuple #[v, .int .i64 (lngE (flW (fun _ => false) qs || (flW (fun _ => false) ns || (flW t7L ts || (flW leL ls || flW (fun _ => false) hs)))))]) ∧ ((flW (fun _ => false) qs || (flW (fun _ => false) ns || (flW t7L ts || (flW leL ls || flW (fun _ => false) hs)))) = false → Own w.heap.size w' v (bytesZ [lo, pa, no] ++ (listW q7Z qs ++ (listW n5Z ns ++ (listW t7Z ts ++ (listW leZ ls ++ listW h2Z hs))))).length (bytesZ [lo, pa, no] ++ (listW q7Z qs ++ (listW n5Z ns ++ (listW t7Z ts ++ (listW leZ ls ++ listW h2Z hs)))))) ∧ ((flW (fun _ => false) qs || (flW (fun _ => false) ns || (flW t7L ts || (flW leL ls || flW (fun _ => false) hs)))) = true → v = .slice none 0 0) ∧ Below w.heap.size w w' := by
  have HLS := hid hls
  have HLA := hid hla
  have HTA := hid hta
  have HQK := hid hqk
  have HNK := hid hnk
  have HHK := hid hhk
  have LQ := hid hqs.1
  have LN := hid hns.1
  have LT := hid hts.1
  have LH := hid hhs.1
  have LS := hid hls.1
  have RQ := hid (fun hp => hqs.rangeAt hp)
  have RN := hid (fun hp => hns.rangeAt hp)
  have RT := hid (fun hp => hts.rangeAt hp)
  have RH := hid (fun hp => hhs.rangeAt hp)
  have cq1 := hqs.2.1
  have cq2 := hqs.2.2.1
  have cn1 := hns.2.1
  have cn2 := hns.2.2.1
  have ct1 := hts.2.1
  have ct2 := hts.2.2.1
  have ch1 := hhs.2.1
  have ch2 := hhs.2.2.1
  have SHO := hid (fun W (H : Below w.heap.size w W) => rshort_any la ln lc ls W (hls.below H))
  clear hqs hqk hns hnk hts hta hls hla hhs hhk
  obtain ⟨D1, e1⟩ : ∃ b, decide ((1024 : Int) < (qn : Int)) = b := ⟨_, rfl⟩
  obtain ⟨D2, e2⟩ : ∃ b, decide ((1024 : Int) < (nn : Int)) = b := ⟨_, rfl⟩
  obtain ⟨D3, e3⟩ : ∃ b, decide ((1024 : Int) < (tn : Int)) = b := ⟨_, rfl⟩
  obtain ⟨D4, e4⟩ : ∃ b, decide ((1024 : Int) < (hn : Int)) = b := ⟨_, rfl⟩
  have FLE : Hid ((flW (fun _ => false) qs || (flW (fun _ => false) ns || (flW t7L ts || (flW leL ls || flW (fun _ => false) hs)))) = ((D1 || (D2 || (D3 || (D4 || flW leL ls)))) || ts.any t7L)) := by
    unfold Hid
    rw [flW_f LQ.out, flW_f LN.out, flW_eq LT.out, flW_f LH.out, e1, e2, e3, e4]
    exact flag_eq _ _ _ _ _ _
  generalize hfl : (flW (fun _ => false) qs || (flW (fun _ => false) ns || (flW t7L ts || (flW leL ls || flW (fun _ => false) hs)))) = FB at *
  clear hfl
  generalize hby : (bytesZ [lo, pa, no] ++ (listW q7Z qs ++ (listW n5Z ns ++ (listW t7Z ts ++ (listW leZ ls ++ listW h2Z hs))))) = BYS at *
  have HBY := hid hby
  clear hby
  generalize hd5 : flW leL ls = D5 at *
  have HD5 := hid hd5
  clear hd5
  obtain ⟨D0, HD0⟩ : ∃ b, Hid (b = (D1 || (D2 || (D3 || (D4 || D5))))) := ⟨_, rfl⟩
  go_enter Try.func20, Try.ntmps20
  go_upto_region 1 with fail
  have B0 := hid ((Below.refl w.heap.size w).alloc (Nat.le_refl _) (.cells #[.int .i64 lo, .int .i64 pa, .int .i64 no, .slice qa qn qc, .slice na nn nc, .slice ta tn tc, .slice la ln lc, .slice ha hn hc] 54))
  have BX := hid (Box.alloc w #[.int .i64 lo, .int .i64 pa, .int .i64 no, .slice qa qn qc, .slice na nn nc, .slice ta tn tc, .slice la ln lc, .slice ha hn hc] (54))
  have s0 : Hid (w.heap.size + 1 ≤ (w.alloc (.cells #[.int .i64 lo, .int .i64 pa, .int .i64 no, .slice qa qn qc, .slice na nn nc, .slice ta tn tc, .slice la ln lc, .slice ha hn hc] 54)).heap.size) := by unfold Hid; simp
  generalize (w.alloc (.cells #[.int .i64 lo, .int .i64 pa, .int .i64 no, .slice qa qn qc, .slice na nn nc, .slice ta tn tc, .slice la ln lc, .slice ha hn hc] 54)) = W0 at *
  have y3 := BX.out 3 (.slice qa qn qc) rfl
  have y4 := BX.out 4 (.slice na nn nc) rfl
  have y5 := BX.out 5 (.slice ta tn tc) rfl
  have y6 := BX.out 6 (.slice la ln lc) rfl
  have y7 := BX.out 7 (.slice ha hn hc) rfl
  have C0 := hid (SHO.out W0 B0.out)
  go_cut [4] from 16 to 43 (fun v4 wx => v4 = .bool D0 ∧ Hid (Below w.heap.size w wx) ∧ Hid (Box wx w.heap.size #[.int .i64 lo, .int .i64 pa, .int .i64 no, .slice qa qn qc, .slice na nn nc, .slice ta tn tc, .slice la ln lc, .slice ha hn hc]) ∧ Hid (w.heap.size + 1 ≤ wx.heap.size))
  case first =>
    cases D1
    · cases D2
      · cases D3
        · cases D4
          · go_wp2_with fail
            with_reducible refine C0.out.mono ?_
            rintro e W1 ⟨rfl, b1⟩
            have B1 := hid (B0.out.trans (b1.mono B0.out.size))
            have BX1 := hid (BX.out.below b1)
            have s1 : Hid (w.heap.size + 1 ≤ W1.heap.size) := by unfold Hid; have := b1.size; have := s0.out; omega
            clear b1
            go_wp2_with fail
            go_meet
            exact ⟨by rw [HD0.out]; simp, B1, BX1, s1⟩
          · go_wp2_with fail
            go_meet
            exact ⟨by rw [HD0.out]; rfl, B0, BX, s0⟩
        · go_wp2_with fail
          go_meet
          exact ⟨by rw [HD0.out]; rfl, B0, BX, s0⟩
      · go_wp2_with fail
        go_meet
        exact ⟨by rw [HD0.out]; rfl, B0, BX, s0⟩
    · go_wp2_with fail
      go_meet
      exact ⟨by rw [HD0.out]; rfl, B0, BX, s0⟩
  case rest =>
  clear B0 BX s0 y3 y4 y5 y6 y7 C0
  obtain ⟨rfl, B0, BX, s0⟩ := hcut
  have y5 := BX.out 5 (.slice ta tn tc) rfl
  go_wp2_with fail
  clear y5
  go_loopw [4, 47] (fun v i wr => ∃ (k : Nat) (P : Bool), k ≤ tn ∧ i = .int .i64 (k : Int) ∧ v = .bool P ∧ Hid (P = (D0 || (ts.take k).any t7L)) ∧ Hid (Below w.heap.size w wr) ∧ Hid (Box wr w.heap.size #[.int .i64 lo, .int .i64 pa, .int .i64 no, .slice qa qn qc, .slice na nn nc, .slice ta tn tc, .slice la ln lc, .slice ha hn hc]) ∧ Hid (w.heap.size + 1 ≤ wr.heap.size)) (fun _ i _ => tn - (intOf i).toNat)
  case atStart => exact ⟨0, D0, by omega, rfl, rfl, by unfold Hid; simp, B0, BX, s0⟩
  case round =>
    clear B0 BX s0
    obtain ⟨k, P, hk', rfl, rfl, HP, BR, BX, sr⟩ := hrel
    by_cases hlt : k < tn
    · have hlt' : k < ts.length := by rw [LT.out]; exact hlt
      obtain ⟨b, off, rfl, hbl, RI⟩ := RT.out (by omega)
      have RG := rangeAt_below (RI k ts[k] (List.getElem?_eq_getElem hlt')) BR.out
      have AN := hid (any_snoc t7L hlt')
      have ka : (0 : Int) ≤ (k : Int) := by omega
      have kb : (k : Int) < (tn : Int) := by omega
      have HO1 := hid (all_oneCell_toArray (T7.one ts[k]))
      have HK : Hid (ts[k].cs.length = 7) := rfl
      have H5 : Hid (ts[k].cs.toArray[5]? = some (.slice ts[k].sa ts[k].sl ts[k].sc)) := rfl
      have LD5 : Hid (t7L ts[k] = decide (1024 < ts[k].sl)) := rfl
      clear RI
      generalize t7L ts[k] = LB at *
      generalize ts[k].cs = X at *
      generalize ts[k].sa = sa at *
      generalize ts[k].sl = sl at *
      generalize ts[k].sc = sc at *
      have hsz : (Try.prog.info? 30).map (·.size) = some X.length := by rw [HK.out]; exact sizeTask
      go_upto_region 5 with (first | refine wpList_load_mid rfl 30 (.tmp 49) rfl _ _ rfl X _ RG Try.underlying30 rfl hsz ?_ | refine wpList_store_row rfl 30 (.tmp 6) (.tmp 50) rfl wr.heap.size X.toArray rfl rfl 30 _ (heap_alloc_new wr _) (by simpa using hsz) (by show 7 = X.toArray.size; rw [List.size_toArray, HK.out]) HO1.out ?_)
      rw [alloc_row]
      have b2 := (Below.refl wr.heap.size wr).alloc (Nat.le_refl _) (.cells X.toArray 30)
      have c5 := (Blk.alloc wr X.toArray (30)).boxE 5 _ H5.out
      have BR2 := hid (BR.out.alloc BR.out.size (.cells X.toArray 30))
      have BX2 := hid (BX.out.below b2)
      have s2 : Hid (w.heap.size + 1 ≤ (wr.alloc (.cells X.toArray 30)).heap.size) := by unfold Hid; have := sr.out; have := b2.size; omega
      clear RG BR BX sr b2
      generalize wr.alloc (.cells X.toArray 30) = w2 at *
      by_cases hP : P = true
      · subst hP
        go_wp2_with fail
        refine ⟨⟨k + 1, _, by omega, by go_num, rfl, by unfold Hid; rw [AN.out, ← Bool.or_assoc, ← HP.out]; rfl, BR2, BX2, s2⟩, ?_⟩
        simp [intOf]; omega
      · obtain rfl : P = false := by simpa using hP
        by_cases hz : 1024 < sl
        · have t1 : decide ((1024 : Int) < (sl : Int)) = true := by simp; omega
          go_wp2_with fail
          refine ⟨⟨k + 1, _, by omega, by go_num, rfl, by unfold Hid; rw [AN.out, ← Bool.or_assoc, ← HP.out, LD5.out]; simpa using hz, BR2, BX2, s2⟩, ?_⟩
          simp [intOf]; omega
        · have t1 : decide ((1024 : Int) < (sl : Int)) = false := by simp; omega
          go_wp2_with fail
          refine ⟨⟨k + 1, _, by omega, by go_num, rfl, by unfold Hid; rw [AN.out, ← Bool.or_assoc, ← HP.out, LD5.out]; simpa using hz, BR2, BX2, s2⟩, ?_⟩
          simp [intOf]; omega
    obtain rfl : tn = k := by omega
    have et : ts.take tn = ts := List.take_of_length_le (by rw [LT.out]; exact Nat.le_refl _)
    rw [et] at HP
    have T : Hid (FB = P) := by unfold Hid; rw [FLE.out, HP.out, HD0.out]
    by_cases hP : P = true
    · subst hP
      clear HP FLE
      go_wp2_with fail
      refine bodyPost_ret (v := .tuple #[.slice none 0 0, .int .i64 3]) (by simp [results, Try.results20, go_sem]) rfl ?_
      rw [T.out]
      exact ⟨_, rfl, (fun h => by cases h), fun _ => rfl, BR.out⟩
    obtain rfl : P = false := by simpa using hP
    go_upto_region 9 with fail
    obtain ⟨d0, da⟩ := Bool.or_eq_false_iff.1 HP.out.symm
    obtain ⟨d1, d2, d3, d4, d5⟩ : D1 = false ∧ D2 = false ∧ D3 = false ∧ D4 = false ∧ D5 = false := by
      have h := HD0.out.symm
      rw [d0] at h
      simpa using h
    clear HP HD0 FLE d0
    rw [d1] at e1
    rw [d2] at e2
    rw [d3] at e3
    rw [d4] at e4
    have HD5' := HD5.out
    rw [d5] at HD5'
    clear d1 d2 d3 d4 d5
    have hk1qn : qn ≤ 1024 := by simp at e1; omega
    have hk1nn : nn ≤ 1024 := by simp at e2; omega
    have hk1tn : tn ≤ 1024 := by simp at e3; omega
    have hk1hn : hn ≤ 1024 := by simp at e4; omega
    obtain ⟨hl1, hsl⟩ := flW_no HD5'
    have HSL := hid hsl
    have hk1ln : ln ≤ 1024 := by rw [← LS.out]; exact hl1
    have HSHT : Hid (∀ x ∈ ts, x.sl ≤ 1024) := by
      unfold Hid
      intro x hx
      have := List.any_eq_false.1 da x hx
      unfold t7L at this
      simpa using this
    have LLN : Hid ((listE leZ ls).length ≤ 9800000) := by
      have := listW_len (xs := ls) leZ_len
      rw [listW_no hl1] at this
      unfold Hid; omega
    have HZ : Hid (BYS = bytesZ [lo, pa, no] ++ numB (qn : Int) ++ qs.flatMap q7Z ++ numB (nn : Int) ++ ns.flatMap n5Z ++ numB (tn : Int) ++ ts.flatMap t7Z ++ listE leZ ls ++ numB (hn : Int) ++ hs.flatMap h2Z) := by
      unfold Hid
      rw [← HBY.out, listW_at LQ.out hk1qn, listW_at LN.out hk1nn, listW_at LT.out hk1tn, listW_no hl1, listW_at LH.out hk1hn]
      simp only [List.append_assoc]
    have B0 := hid BR.out
    have s0 := hid sr.out
    clear e1 e2 e3 e4 HD5' hsl da hP hlt hk' et HBY SHO HD5 BR sr
    generalize wr = W0 at *
    have n1 : Hid ((bytesZ [lo, pa, no]).length ≤ 27) := bytesZ_len [lo, pa, no]
    have C1 := hid (put_lit (w.heap.size + 1) (.slice none 0 0) [] [lo, pa, no] W0 (nilO _ _) s0.out #[.int .i64 lo, .int .i64 pa, .int .i64 no] rfl 3 rfl (by decide) (by intro x hx; simp only [List.mem_cons, List.not_mem_nil, or_false] at hx; rcases hx with rfl | rfl | rfl <;> assumption) (by (try simp only [List.length_append, List.length_nil]); omega))
    generalize hs1 : bytesZ [lo, pa, no] = S1 at *
    have E1 := hid hs1
    clear hs1
    have y0 := BX.out 0 (.int .i64 lo) rfl
    have y1 := BX.out 1 (.int .i64 pa) rfl
    have y2 := BX.out 2 (.int .i64 no) rfl
    go_wp2_with fail
    with_reducible refine C1.out.mono ?_
    clear y0 y1 y2
    rintro e W1 ⟨v1, rfl, h, kk⟩
    rw [List.nil_append] at h
    have H1 := hid h
    replace BX := hid (BX.out.pk kk (by intro e; cases e))
    have B1 := hid (B0.out.trans (kk.below (base := w.heap.size) (by have := s0.out; omega) (by intro g e; cases e)))
    have s1 : Hid (w.heap.size + 1 ≤ W1.heap.size) := by unfold Hid; have := kk.size; have := s0.out; omega
    clear C1 h kk B0 s0
    have n2 : Hid ((numB (qn : Int)).length ≤ 9) := by unfold Hid; rw [numB_len]; have := shelf_le (qn : Int); omega
    have C2 := hid (rcount2_any qn W1 (by omega))
    generalize hs2 : numB (qn : Int) = S2 at *
    have E2 := hid hs2
    clear hs2
    have y3 := BX.out 3 (.slice qa qn qc) rfl
    go_wp2_with fail
    with_reducible refine C2.out.mono ?_
    clear y3
    rintro e WX ⟨vx, rfl, hx', kx⟩
    have HX := hid (H1.out.below' kx)
    replace BX := hid (BX.out.below kx)
    have BW := hid (B1.out.trans (kx.mono B1.out.size))
    have sx : Hid (w.heap.size + 1 ≤ WX.heap.size) := by unfold Hid; have := kx.size; have := s1.out; omega
    obtain ⟨ga, gc, rfl⟩ := hx'.form
    have HB8 := hid hx'.holds
    clear C2 hx' kx H1 B1 s1
    generalize hz2 : S2.length = z2 at *
    have Z2 := hid hz2
    clear hz2
    obtain ⟨LL, EL⟩ : ∃ LL, Hid (S1 = LL) := ⟨_, rfl⟩
    rw [EL.out] at HX
    have nl : Hid (LL.length ≤ 20000000) := by unfold Hid; rw [← EL.out]; have := n1.out; (try simp only [List.length_append]); omega
    go_wp2_with (at_builtin; refine cat_grow WX rfl (.tmp 68) (.tmp 72) rfl (w.heap.size + 1) LL.length v1 LL rfl HX.out sx.out ga z2 gc S2 rfl HB8.out (by have := nl.out; have := n2.out; omega) ?_)
    intro v2 W2 h kk
    have H2 : Hid (Own (w.heap.size + 1) W2 v2 (LL ++ S2).length (LL ++ S2)) := by unfold Hid; rw [List.length_append, Z2.out]; exact h
    rw [← EL.out] at H2
    replace BX := hid (BX.out.pk kk (fun e => by have := HX.out.1.lt _ e; omega))
    have B2 := hid (BW.out.trans (kk.below (base := w.heap.size) (by have := sx.out; omega) (fun g e => by have := HX.out.1.lt g e; omega)))
    have s2 : Hid (w.heap.size + 1 ≤ W2.heap.size) := by unfold Hid; have := kk.size; have := sx.out; omega
    clear h kk HX BW sx HB8 nl EL
    replace n2 : Hid (S2.length ≤ 9) := by unfold Hid; rw [Z2.out]; exact n2.out
    obtain ⟨L3, EL3⟩ : ∃ L, Hid (S1 ++ S2 = L) := ⟨_, rfl⟩
    have nl3 : Hid (L3.length ≤ 20000000) := by unfold Hid; rw [← EL3.out]; have := n1.out; have := n2.out; (try simp only [List.length_append]); omega
    rw [EL3.out] at H2
    have y3 := BX.out 3 (.slice qa qn qc) rfl
    go_wp2_with fail
    clear y3
    go_loopw [7, 77] (fun v i wr => ∃ k : Nat, k ≤ qn ∧ i = .int .i64 (k : Int) ∧ Hid (Own (w.heap.size + 1) wr v (L3 ++ (qs.take k).flatMap q7Z).length (L3 ++ (qs.take k).flatMap q7Z)) ∧ Hid (Below w.heap.size w wr) ∧ Hid (Box wr w.heap.size #[.int .i64 lo, .int .i64 pa, .int .i64 no, .slice qa qn qc, .slice na nn nc, .slice ta tn tc, .slice la ln lc, .slice ha hn hc]) ∧ Hid (w.heap.size + 1 ≤ wr.heap.size)) (fun _ i _ => qn - (intOf i).toNat)
    case atStart => exact ⟨0, by omega, rfl, by unfold Hid; simpa using H2.out, B2, BX, s2⟩
    case round =>
      clear H2 B2 s2 BX
      obtain ⟨k, hk', rfl, HO, BR, BX, sr⟩ := hrel
      by_cases hlt : k < qn
      · have hlt' : k < qs.length := by rw [LQ.out]; exact hlt
        obtain ⟨b, off, rfl, hbl, RI⟩ := RQ.out (by omega)
        have RG := rangeAt_below (RI k qs[k] (List.getElem?_eq_getElem hlt')) BR.out
        have SN := hid (flat_snoc (en := q7Z) hlt')
        have hfl := flat_le (en := q7Z) (xs := qs.take k) (M := 63) (fun x hx => q7Z_len x)
        have hmem := List.getElem_mem hlt'
        have ka : (0 : Int) ≤ (k : Int) := by omega
        have kb : (k : Int) < (qn : Int) := by omega
        rw [List.length_take] at hfl
        have hfl2 : ((qs.take k).flatMap q7Z).length ≤ 1024 * 63 := Nat.le_trans hfl (Nat.mul_le_mul_right 63 (by omega))
        have LLn := q7Z_len qs[k]
        have EX2 : Hid (∀ W, Calls Try.prog 35 #[.agg qs[k].cs.toArray] W fun e w' => ∃ g, e = .returned (.slice (some ⟨g, 0, none⟩) 7 7) ∧ W.heap.size ≤ g ∧ HoldsN w' (some ⟨g, 0, none⟩) 7 7 [qs[k].a, qs[k].b, qs[k].c, qs[k].d, qs[k].e, qs[k].f, qs[k].g] ∧ Below W.heap.size W w') := fun W => rqueue_any qs[k].a qs[k].b qs[k].c qs[k].d qs[k].e qs[k].f qs[k].g W
        have EZ : Hid (q7Z qs[k] = bytesZ [qs[k].a, qs[k].b, qs[k].c, qs[k].d, qs[k].e, qs[k].f, qs[k].g]) := rfl
        have IX : Hid (∀ y ∈ [qs[k].a, qs[k].b, qs[k].c, qs[k].d, qs[k].e, qs[k].f, qs[k].g], I64 y) := by
          have hok := HQK.out _ hmem
          unfold Hid
          intro y hy
          simp only [List.mem_cons, List.not_mem_nil, or_false] at hy
          rcases hy with rfl | rfl | rfl | rfl | rfl | rfl | rfl
          · exact hok.1
          · exact hok.2.1
          · exact hok.2.2.1
          · exact hok.2.2.2.1
          · exact hok.2.2.2.2.1
          · exact hok.2.2.2.2.2.1
          · exact hok.2.2.2.2.2.2
        generalize [qs[k].a, qs[k].b, qs[k].c, qs[k].d, qs[k].e, qs[k].f, qs[k].g] = XI at *
        have HO1 := hid (all_oneCell_toArray (Q7.one qs[k]))
        have HK : Hid (qs[k].cs.length = 7) := rfl
        clear RI hmem hfl
        generalize q7Z qs[k] = NZ at *
        generalize qs[k].cs = X at *
        have hsz : (Try.prog.info? 25).map (·.size) = some X.length := by rw [HK.out]; exact sizeQue
        obtain ⟨LX, ELX⟩ : ∃ L, Hid (L3 ++ (qs.take k).flatMap q7Z = L) := ⟨_, rfl⟩
        have hLX : LX.length ≤ 40000000 := by rw [← ELX.out, List.length_append]; have := nl3.out; omega
        rw [ELX.out] at HO
        go_upto_region 14 with (first | refine wpList_load_mid rfl 25 (.tmp 79) rfl _ _ rfl X _ RG Try.underlying25 rfl hsz ?_ | refine wpList_store_row rfl 25 (.tmp 9) (.tmp 80) rfl wr.heap.size X.toArray rfl rfl 25 _ (heap_alloc_new wr _) (by simpa using hsz) (by show 7 = X.toArray.size; rw [List.size_toArray, HK.out]) HO1.out ?_)
        rw [alloc_row]
        have b2 := (Below.refl wr.heap.size wr).alloc (Nat.le_refl _) (.cells X.toArray 25)
        have CX := hid (Blk.alloc wr X.toArray (25))
        have HO2 := hid (HO.out.below' b2)
        have BR2 := hid (BR.out.alloc BR.out.size (.cells X.toArray 25))
        have BX2 := hid (BX.out.below b2)
        have s2 : Hid (w.heap.size + 1 ≤ (wr.alloc (.cells X.toArray 25)).heap.size) := by unfold Hid; have := sr.out; have := b2.size; omega
        clear RG b2 BR HO BX sr
        generalize wr.alloc (.cells X.toArray 25) = w2 at *
        have CI := hid (EX2.out w2)
        have LD := CX.out.loadAt Try.underlying25 rfl (by simpa using hsz)
        go_wp2_with (refine wpList_load_at 25 rfl (.tmp 9) rfl _ _ rfl _ LD ?_)
        with_reducible refine CI.out.mono ?_
        rintro e w3 ⟨g, rfl, hg, hh, kx⟩
        have HO3 := hid (HO2.out.below' kx)
        have BX3 := hid (BX2.out.below kx)
        have B3 := hid (BR2.out.trans (kx.mono BR2.out.size))
        have s3 : Hid (w.heap.size + 1 ≤ w3.heap.size) := by unfold Hid; have := kx.size; have := s2.out; omega
        have NE : Hid (∀ b o, (some ⟨g, 0, none⟩ : Option Addr) = some ⟨b, o, none⟩ → 0 < 7 → u7.ownBlock ≠ some b) := fun b o e _ e2 => by cases e; have := (HO2.out.1.lt _ e2).2; omega
        have PU := hid (put_any (w.heap.size + 1) u7 LX _ 7 7 XI w3 HO3.out s3.out hh NE.out IX.out (by omega))
        clear CI hh hg kx HO2 BX2 BR2 LD EX2 s2 NE IX
        go_wp2_with fail
        with_reducible refine PU.out.mono ?_
        rintro e w4 ⟨v4, rfl, h4, k4⟩
        rw [← EZ.out] at h4
        have BX4 := hid (BX3.out.pk k4 (fun e => by have := (HO3.out.1.lt _ e).1; omega))
        have B4 := hid (B3.out.trans (k4.below (by have := s3.out; omega) (fun g e => by have := (HO3.out.1.lt g e).1; omega)))
        have s4 : Hid (w.heap.size + 1 ≤ w4.heap.size) := by unfold Hid; have := k4.size; have := s3.out; omega
        have HO4 : Hid (Own (w.heap.size + 1) w4 v4 (L3 ++ (qs.take (k + 1)).flatMap q7Z).length (L3 ++ (qs.take (k + 1)).flatMap q7Z)) := by
          unfold Hid
          rw [SN.out, ← List.append_assoc, ELX.out]
          exact h4
        clear PU h4 k4 HO3 BX3 B3 s3
        go_wp2_with fail
        refine ⟨⟨k + 1, by omega, by go_num, HO4, B4, BX4, s4⟩, ?_⟩
        simp [intOf]; omega
      obtain rfl : qn = k := by omega
      go_upto_region 16 with fail
      have et : qs.take qn = qs := List.take_of_length_le (by rw [LQ.out]; exact Nat.le_refl _)
      rw [et] at HO
      rw [← EL3.out] at HO
      have n3 : Hid ((qs.flatMap q7Z).length ≤ 64512) := by unfold Hid; have h1 := flat_le (en := q7Z) (xs := qs) (M := 63) (fun x hx => q7Z_len x); rw [LQ.out] at h1; exact Nat.le_trans h1 (by have := Nat.mul_le_mul_right 63 hk1qn; omega)
      generalize hs3 : qs.flatMap q7Z = S3 at *
      have E3 := hid hs3
      clear hs3 et EL3 nl3 hlt hk'
      have H3 := hid HO.out
      have B3 := hid BR.out
      have s3 := hid sr.out
      clear HO BR sr
      generalize wr = W3 at *
      generalize u7 = v3 at *
      have n4 : Hid ((numB (nn : Int)).length ≤ 9) := by unfold Hid; rw [numB_len]; have := shelf_le (nn : Int); omega
      have C4 := hid (rcount2_any nn W3 (by omega))
      generalize hs4 : numB (nn : Int) = S4 at *
      have E4 := hid hs4
      clear hs4
      have y4 := BX.out 4 (.slice na nn nc) rfl
      go_wp2_with fail
      with_reducible refine C4.out.mono ?_
      clear y4
      rintro e WX ⟨vx, rfl, hx', kx⟩
      have HX := hid (H3.out.below' kx)
      replace BX := hid (BX.out.below kx)
      have BW := hid (B3.out.trans (kx.mono B3.out.size))
      have sx : Hid (w.heap.size + 1 ≤ WX.heap.size) := by unfold Hid; have := kx.size; have := s3.out; omega
      obtain ⟨ga, gc, rfl⟩ := hx'.form
      have HB8 := hid hx'.holds
      clear C4 hx' kx H3 B3 s3
      generalize hz4 : S4.length = z4 at *
      have Z4 := hid hz4
      clear hz4
      obtain ⟨LL, EL⟩ : ∃ LL, Hid (S1 ++ S2 ++ S3 = LL) := ⟨_, rfl⟩
      rw [EL.out] at HX
      have nl : Hid (LL.length ≤ 20000000) := by unfold Hid; rw [← EL.out]; have := n1.out; have := n2.out; have := n3.out; (try simp only [List.length_append]); omega
      go_wp2_with (at_builtin; refine cat_grow WX rfl (.tmp 86) (.tmp 90) rfl (w.heap.size + 1) LL.length v3 LL rfl HX.out sx.out ga z4 gc S4 rfl HB8.out (by have := nl.out; have := n4.out; omega) ?_)
      intro v4 W4 h kk
      have H4 : Hid (Own (w.heap.size + 1) W4 v4 (LL ++ S4).length (LL ++ S4)) := by unfold Hid; rw [List.length_append, Z4.out]; exact h
      rw [← EL.out] at H4
      replace BX := hid (BX.out.pk kk (fun e => by have := HX.out.1.lt _ e; omega))
      have B4 := hid (BW.out.trans (kk.below (base := w.heap.size) (by have := sx.out; omega) (fun g e => by have := HX.out.1.lt g e; omega)))
      have s4 : Hid (w.heap.size + 1 ≤ W4.heap.size) := by unfold Hid; have := kk.size; have := sx.out; omega
      clear h kk HX BW sx HB8 nl EL
      replace n4 : Hid (S4.length ≤ 9) := by unfold Hid; rw [Z4.out]; exact n4.out
      obtain ⟨L5, EL5⟩ : ∃ L, Hid (S1 ++ S2 ++ S3 ++ S4 = L) := ⟨_, rfl⟩
      have nl5 : Hid (L5.length ≤ 20000000) := by unfold Hid; rw [← EL5.out]; have := n1.out; have := n2.out; have := n3.out; have := n4.out; (try simp only [List.length_append]); omega
      rw [EL5.out] at H4
      have y4 := BX.out 4 (.slice na nn nc) rfl
      go_wp2_with fail
      clear y4
      go_loopw [7, 95] (fun v i wr => ∃ k : Nat, k ≤ nn ∧ i = .int .i64 (k : Int) ∧ Hid (Own (w.heap.size + 1) wr v (L5 ++ (ns.take k).flatMap n5Z).length (L5 ++ (ns.take k).flatMap n5Z)) ∧ Hid (Below w.heap.size w wr) ∧ Hid (Box wr w.heap.size #[.int .i64 lo, .int .i64 pa, .int .i64 no, .slice qa qn qc, .slice na nn nc, .slice ta tn tc, .slice la ln lc, .slice ha hn hc]) ∧ Hid (w.heap.size + 1 ≤ wr.heap.size)) (fun _ i _ => nn - (intOf i).toNat)
      case atStart => exact ⟨0, by omega, rfl, by unfold Hid; simpa using H4.out, B4, BX, s4⟩
      case round =>
        clear H4 B4 s4 BX
        obtain ⟨k, hk', rfl, HO, BR, BX, sr⟩ := hrel
        by_cases hlt : k < nn
        · have hlt' : k < ns.length := by rw [LN.out]; exact hlt
          obtain ⟨b, off, rfl, hbl, RI⟩ := RN.out (by omega)
          have RG := rangeAt_below (RI k ns[k] (List.getElem?_eq_getElem hlt')) BR.out
          have SN := hid (flat_snoc (en := n5Z) hlt')
          have hfl := flat_le (en := n5Z) (xs := ns.take k) (M := 45) (fun x hx => n5Z_len x)
          have hmem := List.getElem_mem hlt'
          have ka : (0 : Int) ≤ (k : Int) := by omega
          have kb : (k : Int) < (nn : Int) := by omega
          rw [List.length_take] at hfl
          have hfl2 : ((ns.take k).flatMap n5Z).length ≤ 1024 * 45 := Nat.le_trans hfl (Nat.mul_le_mul_right 45 (by omega))
          have LLn := n5Z_len ns[k]
          have EX2 : Hid (∀ W, Calls Try.prog 36 #[.agg ns[k].cs.toArray] W fun e w' => ∃ g, e = .returned (.slice (some ⟨g, 0, none⟩) 5 5) ∧ W.heap.size ≤ g ∧ HoldsN w' (some ⟨g, 0, none⟩) 5 5 [ns[k].a, ns[k].b, ns[k].c, ns[k].d, ns[k].e] ∧ Below W.heap.size W w') := fun W => rnode_any ns[k].a ns[k].b ns[k].c ns[k].d ns[k].e W
          have EZ : Hid (n5Z ns[k] = bytesZ [ns[k].a, ns[k].b, ns[k].c, ns[k].d, ns[k].e]) := rfl
          have IX : Hid (∀ y ∈ [ns[k].a, ns[k].b, ns[k].c, ns[k].d, ns[k].e], I64 y) := by
            have hok := HNK.out _ hmem
            unfold Hid
            intro y hy
            simp only [List.mem_cons, List.not_mem_nil, or_false] at hy
            rcases hy with rfl | rfl | rfl | rfl | rfl
            · exact hok.1
            · exact hok.2.1
            · exact hok.2.2.1
            · exact hok.2.2.2.1
            · exact hok.2.2.2.2
          generalize [ns[k].a, ns[k].b, ns[k].c, ns[k].d, ns[k].e] = XI at *
          have HO1 := hid (all_oneCell_toArray (N5.one ns[k]))
          have HK : Hid (ns[k].cs.length = 5) := rfl
          clear RI hmem hfl
          generalize n5Z ns[k] = NZ at *
          generalize ns[k].cs = X at *
          have hsz : (Try.prog.info? 27).map (·.size) = some X.length := by rw [HK.out]; exact sizeNod
          obtain ⟨LX, ELX⟩ : ∃ L, Hid (L5 ++ (ns.take k).flatMap n5Z = L) := ⟨_, rfl⟩
          have hLX : LX.length ≤ 40000000 := by rw [← ELX.out, List.length_append]; have := nl5.out; omega
          rw [ELX.out] at HO
          go_upto_region 20 with (first | refine wpList_load_mid rfl 27 (.tmp 97) rfl _ _ rfl X _ RG Try.underlying27 rfl hsz ?_ | refine wpList_store_row rfl 27 (.tmp 11) (.tmp 98) rfl wr.heap.size X.toArray rfl rfl 27 _ (heap_alloc_new wr _) (by simpa using hsz) (by show 5 = X.toArray.size; rw [List.size_toArray, HK.out]) HO1.out ?_)
          rw [alloc_row]
          have b2 := (Below.refl wr.heap.size wr).alloc (Nat.le_refl _) (.cells X.toArray 27)
          have CX := hid (Blk.alloc wr X.toArray (27))
          have HO2 := hid (HO.out.below' b2)
          have BR2 := hid (BR.out.alloc BR.out.size (.cells X.toArray 27))
          have BX2 := hid (BX.out.below b2)
          have s2 : Hid (w.heap.size + 1 ≤ (wr.alloc (.cells X.toArray 27)).heap.size) := by unfold Hid; have := sr.out; have := b2.size; omega
          clear RG b2 BR HO BX sr
          generalize wr.alloc (.cells X.toArray 27) = w2 at *
          have CI := hid (EX2.out w2)
          have LD := CX.out.loadAt Try.underlying27 rfl (by simpa using hsz)
          go_wp2_with (refine wpList_load_at 27 rfl (.tmp 11) rfl _ _ rfl _ LD ?_)
          with_reducible refine CI.out.mono ?_
          rintro e w3 ⟨g, rfl, hg, hh, kx⟩
          have HO3 := hid (HO2.out.below' kx)
          have BX3 := hid (BX2.out.below kx)
          have B3 := hid (BR2.out.trans (kx.mono BR2.out.size))
          have s3 : Hid (w.heap.size + 1 ≤ w3.heap.size) := by unfold Hid; have := kx.size; have := s2.out; omega
          have NE : Hid (∀ b o, (some ⟨g, 0, none⟩ : Option Addr) = some ⟨b, o, none⟩ → 0 < 5 → u7.ownBlock ≠ some b) := fun b o e _ e2 => by cases e; have := (HO2.out.1.lt _ e2).2; omega
          have PU := hid (put_any (w.heap.size + 1) u7 LX _ 5 5 XI w3 HO3.out s3.out hh NE.out IX.out (by omega))
          clear CI hh hg kx HO2 BX2 BR2 LD EX2 s2 NE IX
          go_wp2_with fail
          with_reducible refine PU.out.mono ?_
          rintro e w4 ⟨v4, rfl, h4, k4⟩
          rw [← EZ.out] at h4
          have BX4 := hid (BX3.out.pk k4 (fun e => by have := (HO3.out.1.lt _ e).1; omega))
          have B4 := hid (B3.out.trans (k4.below (by have := s3.out; omega) (fun g e => by have := (HO3.out.1.lt g e).1; omega)))
          have s4 : Hid (w.heap.size + 1 ≤ w4.heap.size) := by unfold Hid; have := k4.size; have := s3.out; omega
          have HO4 : Hid (Own (w.heap.size + 1) w4 v4 (L5 ++ (ns.take (k + 1)).flatMap n5Z).length (L5 ++ (ns.take (k + 1)).flatMap n5Z)) := by
            unfold Hid
            rw [SN.out, ← List.append_assoc, ELX.out]
            exact h4
          clear PU h4 k4 HO3 BX3 B3 s3
          go_wp2_with fail
          refine ⟨⟨k + 1, by omega, by go_num, HO4, B4, BX4, s4⟩, ?_⟩
          simp [intOf]; omega
        obtain rfl : nn = k := by omega
        go_upto_region 22 with fail
        have et : ns.take nn = ns := List.take_of_length_le (by rw [LN.out]; exact Nat.le_refl _)
        rw [et] at HO
        rw [← EL5.out] at HO
        have n5 : Hid ((ns.flatMap n5Z).length ≤ 46080) := by unfold Hid; have h1 := flat_le (en := n5Z) (xs := ns) (M := 45) (fun x hx => n5Z_len x); rw [LN.out] at h1; exact Nat.le_trans h1 (by have := Nat.mul_le_mul_right 45 hk1nn; omega)
        generalize hs5 : ns.flatMap n5Z = S5 at *
        have E5 := hid hs5
        clear hs5 et EL5 nl5 hlt hk'
        have H5 := hid HO.out
        have B5 := hid BR.out
        have s5 := hid sr.out
        clear HO BR sr
        generalize wr = W5 at *
        generalize u7 = v5 at *
        have n6 : Hid ((numB (tn : Int)).length ≤ 9) := by unfold Hid; rw [numB_len]; have := shelf_le (tn : Int); omega
        have C6 := hid (rcount2_any tn W5 (by omega))
        generalize hs6 : numB (tn : Int) = S6 at *
        have E6 := hid hs6
        clear hs6
        have y5 := BX.out 5 (.slice ta tn tc) rfl
        go_wp2_with fail
        with_reducible refine C6.out.mono ?_
        clear y5
        rintro e WX ⟨vx, rfl, hx', kx⟩
        have HX := hid (H5.out.below' kx)
        replace BX := hid (BX.out.below kx)
        have BW := hid (B5.out.trans (kx.mono B5.out.size))
        have sx : Hid (w.heap.size + 1 ≤ WX.heap.size) := by unfold Hid; have := kx.size; have := s5.out; omega
        obtain ⟨ga, gc, rfl⟩ := hx'.form
        have HB8 := hid hx'.holds
        clear C6 hx' kx H5 B5 s5
        generalize hz6 : S6.length = z6 at *
        have Z6 := hid hz6
        clear hz6
        obtain ⟨LL, EL⟩ : ∃ LL, Hid (S1 ++ S2 ++ S3 ++ S4 ++ S5 = LL) := ⟨_, rfl⟩
        rw [EL.out] at HX
        have nl : Hid (LL.length ≤ 20000000) := by unfold Hid; rw [← EL.out]; have := n1.out; have := n2.out; have := n3.out; have := n4.out; have := n5.out; (try simp only [List.length_append]); omega
        go_wp2_with (at_builtin; refine cat_grow WX rfl (.tmp 104) (.tmp 108) rfl (w.heap.size + 1) LL.length v5 LL rfl HX.out sx.out ga z6 gc S6 rfl HB8.out (by have := nl.out; have := n6.out; omega) ?_)
        intro v6 W6 h kk
        have H6 : Hid (Own (w.heap.size + 1) W6 v6 (LL ++ S6).length (LL ++ S6)) := by unfold Hid; rw [List.length_append, Z6.out]; exact h
        rw [← EL.out] at H6
        replace BX := hid (BX.out.pk kk (fun e => by have := HX.out.1.lt _ e; omega))
        have B6 := hid (BW.out.trans (kk.below (base := w.heap.size) (by have := sx.out; omega) (fun g e => by have := HX.out.1.lt g e; omega)))
        have s6 : Hid (w.heap.size + 1 ≤ W6.heap.size) := by unfold Hid; have := kk.size; have := sx.out; omega
        clear h kk HX BW sx HB8 nl EL
        replace n6 : Hid (S6.length ≤ 9) := by unfold Hid; rw [Z6.out]; exact n6.out
        obtain ⟨L7, EL7⟩ : ∃ L, Hid (S1 ++ S2 ++ S3 ++ S4 ++ S5 ++ S6 = L) := ⟨_, rfl⟩
        have nl7 : Hid (L7.length ≤ 20000000) := by unfold Hid; rw [← EL7.out]; have := n1.out; have := n2.out; have := n3.out; have := n4.out; have := n5.out; have := n6.out; (try simp only [List.length_append]); omega
        rw [EL7.out] at H6
        have y5 := BX.out 5 (.slice ta tn tc) rfl
        go_wp2_with fail
        clear y5
        go_loopw [7, 113] (fun v i wr => ∃ k : Nat, k ≤ tn ∧ i = .int .i64 (k : Int) ∧ Hid (Own (w.heap.size + 1) wr v (L7 ++ (ts.take k).flatMap t7Z).length (L7 ++ (ts.take k).flatMap t7Z)) ∧ Hid (Below w.heap.size w wr) ∧ Hid (Box wr w.heap.size #[.int .i64 lo, .int .i64 pa, .int .i64 no, .slice qa qn qc, .slice na nn nc, .slice ta tn tc, .slice la ln lc, .slice ha hn hc]) ∧ Hid (w.heap.size + 1 ≤ wr.heap.size)) (fun _ i _ => tn - (intOf i).toNat)
        case atStart => exact ⟨0, by omega, rfl, by unfold Hid; simpa using H6.out, B6, BX, s6⟩
        case round =>
          clear H6 B6 s6 BX
          obtain ⟨k, hk', rfl, HO, BR, BX, sr⟩ := hrel
          by_cases hlt : k < tn
          · have hlt' : k < ts.length := by rw [LT.out]; exact hlt
            obtain ⟨b, off, rfl, hbl, RI⟩ := RT.out (by omega)
            have RG := rangeAt_below (RI k ts[k] (List.getElem?_eq_getElem hlt')) BR.out
            have SN := hid (flat_snoc (en := t7Z) hlt')
            have hfl := flat_le (en := t7Z) (xs := ts.take k) (M := 9500) (fun x hx => t7Z_len x)
            have hmem := List.getElem_mem hlt'
            have ka : (0 : Int) ≤ (k : Int) := by omega
            have kb : (k : Int) < (tn : Int) := by omega
            rw [List.length_take] at hfl
            have hfl2 : ((ts.take k).flatMap t7Z).length ≤ 1024 * 9500 := Nat.le_trans hfl (Nat.mul_le_mul_right 9500 (by omega))
            have LLn := t7Z_len ts[k]
            have EX2 : Hid (∀ W, Below w.heap.size w W → Calls Try.prog 37 #[.agg ts[k].cs.toArray] W fun e w' => ∃ v, e = .returned v ∧ Own W.heap.size w' v (t7Z ts[k]).length (t7Z ts[k]) ∧ Below W.heap.size W w') := fun W hW => rtask_any ts[k].t1 ts[k].t2 ts[k].c ts[k].m ts[k].wk ts[k].sa ts[k].sl ts[k].sc ts[k].tk ts[k].st W (HTA.out _ hmem).2.1.1 (HTA.out _ hmem).2.1.2.1 (HTA.out _ hmem).2.1.2.2.1 (HTA.out _ hmem).2.1.2.2.2.1 (HTA.out _ hmem).2.1.2.2.2.2.1 (HTA.out _ hmem).2.1.2.2.2.2.2 ((HTA.out _ hmem).1.below hW) (HTA.out _ hmem).2.2 (HSHT.out _ hmem)
            have HO1 := hid (all_oneCell_toArray (T7.one ts[k]))
            have HK : Hid (ts[k].cs.length = 7) := rfl
            clear RI hmem hfl
            generalize t7Z ts[k] = NZ at *
            generalize ts[k].cs = X at *
            have hsz : (Try.prog.info? 30).map (·.size) = some X.length := by rw [HK.out]; exact sizeTask
            obtain ⟨LX, ELX⟩ : ∃ L, Hid (L7 ++ (ts.take k).flatMap t7Z = L) := ⟨_, rfl⟩
            have hLX : LX.length ≤ 40000000 := by rw [← ELX.out, List.length_append]; have := nl7.out; omega
            rw [ELX.out] at HO
            go_upto_region 26 with (first | refine wpList_load_mid rfl 30 (.tmp 115) rfl _ _ rfl X _ RG Try.underlying30 rfl hsz ?_ | refine wpList_store_row rfl 30 (.tmp 13) (.tmp 116) rfl wr.heap.size X.toArray rfl rfl 30 _ (heap_alloc_new wr _) (by simpa using hsz) (by show 7 = X.toArray.size; rw [List.size_toArray, HK.out]) HO1.out ?_)
            rw [alloc_row]
            have b2 := (Below.refl wr.heap.size wr).alloc (Nat.le_refl _) (.cells X.toArray 30)
            have CX := hid (Blk.alloc wr X.toArray (30))
            have HO2 := hid (HO.out.below' b2)
            have BR2 := hid (BR.out.alloc BR.out.size (.cells X.toArray 30))
            have BX2 := hid (BX.out.below b2)
            have s2 : Hid (w.heap.size + 1 ≤ (wr.alloc (.cells X.toArray 30)).heap.size) := by unfold Hid; have := sr.out; have := b2.size; omega
            clear RG b2 BR HO BX sr
            generalize wr.alloc (.cells X.toArray 30) = w2 at *
            have CI := hid (EX2.out w2 BR2.out)
            have LD := CX.out.loadAt Try.underlying30 rfl (by simpa using hsz)
            go_wp2_with (refine wpList_load_at 30 rfl (.tmp 13) rfl _ _ rfl _ LD ?_)
            with_reducible refine CI.out.mono ?_
            rintro e w3 ⟨vx, rfl, hx', kx⟩
            have HO3 := hid (HO2.out.below' kx)
            have BX3 := hid (BX2.out.below kx)
            have B3 := hid (BR2.out.trans (kx.mono BR2.out.size))
            have s3 : Hid (w.heap.size + 1 ≤ w3.heap.size) := by unfold Hid; have := kx.size; have := s2.out; omega
            obtain ⟨ga, gc, rfl⟩ := hx'.form
            have HB8 := hid hx'.holds
            clear CI hx' kx HO2 BX2 BR2 LD EX2 s2
            generalize hz : NZ.length = nz at *
            have HZ9 := hid hz
            clear hz
            go_wp2_with (at_builtin; refine cat_grow w3 rfl (.tmp 117) (.tmp 119) rfl (w.heap.size + 1) LX.length _ LX rfl HO3.out s3.out ga nz gc NZ rfl HB8.out (by omega) ?_)
            intro v4 w4 h4 k4
            have BX4 := hid (BX3.out.pk k4 (fun e => by have := (HO3.out.1.lt _ e).1; omega))
            have B4 := hid (B3.out.trans (k4.below (by have := s3.out; omega) (fun g e => by have := (HO3.out.1.lt g e).1; omega)))
            have s4 : Hid (w.heap.size + 1 ≤ w4.heap.size) := by unfold Hid; have := k4.size; have := s3.out; omega
            have HO4 : Hid (Own (w.heap.size + 1) w4 v4 (L7 ++ (ts.take (k + 1)).flatMap t7Z).length (L7 ++ (ts.take (k + 1)).flatMap t7Z)) := by
              unfold Hid
              rw [SN.out, ← List.append_assoc, ELX.out, List.length_append, HZ9.out]
              exact h4
            clear h4 k4 HO3 BX3 B3 s3 HB8
            go_wp2_with fail
            refine ⟨⟨k + 1, by omega, by go_num, HO4, B4, BX4, s4⟩, ?_⟩
            simp [intOf]; omega
          obtain rfl : tn = k := by omega
          go_upto_region 28 with fail
          have et : ts.take tn = ts := List.take_of_length_le (by rw [LT.out]; exact Nat.le_refl _)
          rw [et] at HO
          rw [← EL7.out] at HO
          have n7 : Hid ((ts.flatMap t7Z).length ≤ 9728000) := by unfold Hid; have h1 := flat_le (en := t7Z) (xs := ts) (M := 9500) (fun x hx => t7Z_len x); rw [LT.out] at h1; exact Nat.le_trans h1 (by have := Nat.mul_le_mul_right 9500 hk1tn; omega)
          generalize hs7 : ts.flatMap t7Z = S7 at *
          have E7 := hid hs7
          clear hs7 et EL7 nl7 hlt hk'
          have H7 := hid HO.out
          have B7 := hid BR.out
          have s7 := hid sr.out
          clear HO BR sr
          generalize wr = W7 at *
          generalize u7 = v7 at *
          have n8 : Hid ((listE leZ ls).length ≤ 9800000) := LLN.out
          have C8 := hid (rleases_any la ln lc ls W7 (HLS.out.below B7.out) (fun x hx => ⟨(HLA.out x hx).1.below B7.out, (HLA.out x hx).2⟩) HSL.out hk1ln)
          generalize hs8 : listE leZ ls = S8 at *
          have E8 := hid hs8
          clear hs8
          have y6 := BX.out 6 (.slice la ln lc) rfl
          go_wp2_with fail
          with_reducible refine C8.out.mono ?_
          clear y6
          rintro e WX ⟨vx, rfl, hx', kx⟩
          have HX := hid (H7.out.below' kx)
          replace BX := hid (BX.out.below kx)
          have BW := hid (B7.out.trans (kx.mono B7.out.size))
          have sx : Hid (w.heap.size + 1 ≤ WX.heap.size) := by unfold Hid; have := kx.size; have := s7.out; omega
          obtain ⟨ga, gc, rfl⟩ := hx'.form
          have HB8 := hid hx'.holds
          clear C8 hx' kx H7 B7 s7
          generalize hz8 : S8.length = z8 at *
          have Z8 := hid hz8
          clear hz8
          obtain ⟨LL, EL⟩ : ∃ LL, Hid (S1 ++ S2 ++ S3 ++ S4 ++ S5 ++ S6 ++ S7 = LL) := ⟨_, rfl⟩
          rw [EL.out] at HX
          have nl : Hid (LL.length ≤ 20000000) := by unfold Hid; rw [← EL.out]; have := n1.out; have := n2.out; have := n3.out; have := n4.out; have := n5.out; have := n6.out; have := n7.out; (try simp only [List.length_append]); omega
          go_wp2_with (at_builtin; refine cat_grow WX rfl (.tmp 122) (.tmp 125) rfl (w.heap.size + 1) LL.length v7 LL rfl HX.out sx.out ga z8 gc S8 rfl HB8.out (by have := nl.out; have := n8.out; omega) ?_)
          intro v8 W8 h kk
          have H8 : Hid (Own (w.heap.size + 1) W8 v8 (LL ++ S8).length (LL ++ S8)) := by unfold Hid; rw [List.length_append, Z8.out]; exact h
          rw [← EL.out] at H8
          replace BX := hid (BX.out.pk kk (fun e => by have := HX.out.1.lt _ e; omega))
          have B8 := hid (BW.out.trans (kk.below (base := w.heap.size) (by have := sx.out; omega) (fun g e => by have := HX.out.1.lt g e; omega)))
          have s8 : Hid (w.heap.size + 1 ≤ W8.heap.size) := by unfold Hid; have := kk.size; have := sx.out; omega
          clear h kk HX BW sx HB8 nl EL
          replace n8 : Hid (S8.length ≤ 9800000) := by unfold Hid; rw [Z8.out]; exact n8.out
          have n9 : Hid ((numB (hn : Int)).length ≤ 9) := by unfold Hid; rw [numB_len]; have := shelf_le (hn : Int); omega
          have C9 := hid (rcount2_any hn W8 (by omega))
          generalize hs9 : numB (hn : Int) = S9 at *
          have E9 := hid hs9
          clear hs9
          have y7 := BX.out 7 (.slice ha hn hc) rfl
          go_wp2_with fail
          with_reducible refine C9.out.mono ?_
          clear y7
          rintro e WX ⟨vx, rfl, hx', kx⟩
          have HX := hid (H8.out.below' kx)
          replace BX := hid (BX.out.below kx)
          have BW := hid (B8.out.trans (kx.mono B8.out.size))
          have sx : Hid (w.heap.size + 1 ≤ WX.heap.size) := by unfold Hid; have := kx.size; have := s8.out; omega
          obtain ⟨ga, gc, rfl⟩ := hx'.form
          have HB8 := hid hx'.holds
          clear C9 hx' kx H8 B8 s8
          generalize hz9 : S9.length = z9 at *
          have Z9 := hid hz9
          clear hz9
          obtain ⟨LL, EL⟩ : ∃ LL, Hid (S1 ++ S2 ++ S3 ++ S4 ++ S5 ++ S6 ++ S7 ++ S8 = LL) := ⟨_, rfl⟩
          rw [EL.out] at HX
          have nl : Hid (LL.length ≤ 20000000) := by unfold Hid; rw [← EL.out]; have := n1.out; have := n2.out; have := n3.out; have := n4.out; have := n5.out; have := n6.out; have := n7.out; have := n8.out; (try simp only [List.length_append]); omega
          go_wp2_with (at_builtin; refine cat_grow WX rfl (.tmp 127) (.tmp 131) rfl (w.heap.size + 1) LL.length v8 LL rfl HX.out sx.out ga z9 gc S9 rfl HB8.out (by have := nl.out; have := n9.out; omega) ?_)
          intro v9 W9 h kk
          have H9 : Hid (Own (w.heap.size + 1) W9 v9 (LL ++ S9).length (LL ++ S9)) := by unfold Hid; rw [List.length_append, Z9.out]; exact h
          rw [← EL.out] at H9
          replace BX := hid (BX.out.pk kk (fun e => by have := HX.out.1.lt _ e; omega))
          have B9 := hid (BW.out.trans (kk.below (base := w.heap.size) (by have := sx.out; omega) (fun g e => by have := HX.out.1.lt g e; omega)))
          have s9 : Hid (w.heap.size + 1 ≤ W9.heap.size) := by unfold Hid; have := kk.size; have := sx.out; omega
          clear h kk HX BW sx HB8 nl EL
          replace n9 : Hid (S9.length ≤ 9) := by unfold Hid; rw [Z9.out]; exact n9.out
          obtain ⟨L10, EL10⟩ : ∃ L, Hid (S1 ++ S2 ++ S3 ++ S4 ++ S5 ++ S6 ++ S7 ++ S8 ++ S9 = L) := ⟨_, rfl⟩
          have nl10 : Hid (L10.length ≤ 20000000) := by unfold Hid; rw [← EL10.out]; have := n1.out; have := n2.out; have := n3.out; have := n4.out; have := n5.out; have := n6.out; have := n7.out; have := n8.out; have := n9.out; (try simp only [List.length_append]); omega
          rw [EL10.out] at H9
          have y7 := BX.out 7 (.slice ha hn hc) rfl
          go_wp2_with fail
          clear y7
          go_loopw [7, 136] (fun v i wr => ∃ k : Nat, k ≤ hn ∧ i = .int .i64 (k : Int) ∧ Hid (Own (w.heap.size + 1) wr v (L10 ++ (hs.take k).flatMap h2Z).length (L10 ++ (hs.take k).flatMap h2Z)) ∧ Hid (Below w.heap.size w wr) ∧ Hid (Box wr w.heap.size #[.int .i64 lo, .int .i64 pa, .int .i64 no, .slice qa qn qc, .slice na nn nc, .slice ta tn tc, .slice la ln lc, .slice ha hn hc]) ∧ Hid (w.heap.size + 1 ≤ wr.heap.size)) (fun _ i _ => hn - (intOf i).toNat)
          case atStart => exact ⟨0, by omega, rfl, by unfold Hid; simpa using H9.out, B9, BX, s9⟩
          case round =>
            clear H9 B9 s9 BX
            obtain ⟨k, hk', rfl, HO, BR, BX, sr⟩ := hrel
            by_cases hlt : k < hn
            · have hlt' : k < hs.length := by rw [LH.out]; exact hlt
              obtain ⟨b, off, rfl, hbl, RI⟩ := RH.out (by omega)
              have RG := rangeAt_below (RI k hs[k] (List.getElem?_eq_getElem hlt')) BR.out
              have SN := hid (flat_snoc (en := h2Z) hlt')
              have hfl := flat_le (en := h2Z) (xs := hs.take k) (M := 18) (fun x hx => h2Z_len x)
              have hmem := List.getElem_mem hlt'
              have ka : (0 : Int) ≤ (k : Int) := by omega
              have kb : (k : Int) < (hn : Int) := by omega
              rw [List.length_take] at hfl
              have hfl2 : ((hs.take k).flatMap h2Z).length ≤ 1024 * 18 := Nat.le_trans hfl (Nat.mul_le_mul_right 18 (by omega))
              have LLn := h2Z_len hs[k]
              have HO1 := hid (all_oneCell_toArray (H2.one hs[k]))
              have IA := (HHK.out _ hmem).1
              have IB := (HHK.out _ hmem).2
              have EZ : Hid (h2Z hs[k] = bytesZ [hs[k].a, hs[k].b]) := rfl
              have EC : hs[k].cs = [.int .i64 hs[k].a, .int .i64 hs[k].b] := rfl
              rw [EC] at RG HO1
              clear RI hmem hfl EC
              generalize h2Z hs[k] = NZ at *
              generalize hs[k].a = xa at *
              generalize hs[k].b = xb at *
              have hsz : (Try.prog.info? 94).map (·.size) = some ([.int .i64 xa, .int .i64 xb] : List Value).length := sizeHun
              obtain ⟨LX, ELX⟩ : ∃ L, Hid (L10 ++ (hs.take k).flatMap h2Z = L) := ⟨_, rfl⟩
              have hLX : LX.length ≤ 40000000 := by rw [← ELX.out, List.length_append]; have := nl10.out; omega
              rw [ELX.out] at HO
              go_upto_region 33 with (first | refine wpList_load_mid rfl 94 (.tmp 138) rfl _ _ rfl [.int .i64 xa, .int .i64 xb] _ RG Try.underlying94 rfl hsz ?_ | refine wpList_store_row rfl 94 (.tmp 15) (.tmp 139) rfl wr.heap.size [.int .i64 xa, .int .i64 xb].toArray rfl rfl 94 _ (heap_alloc_new wr _) (by simpa using hsz) (rfl) HO1.out ?_)
              rw [alloc_row]
              have b2 := (Below.refl wr.heap.size wr).alloc (Nat.le_refl _) (.cells [.int .i64 xa, .int .i64 xb].toArray 94)
              have CX := hid (Blk.alloc wr [.int .i64 xa, .int .i64 xb].toArray (94))
              have HO2 := hid (HO.out.below' b2)
              have BR2 := hid (BR.out.alloc BR.out.size (.cells [.int .i64 xa, .int .i64 xb].toArray 94))
              have BX2 := hid (BX.out.below b2)
              have s2 : Hid (w.heap.size + 1 ≤ (wr.alloc (.cells [.int .i64 xa, .int .i64 xb].toArray 94)).heap.size) := by unfold Hid; have := sr.out; have := b2.size; omega
              clear RG b2 BR HO BX sr
              generalize wr.alloc (.cells [.int .i64 xa, .int .i64 xb].toArray 94) = w2 at *
              have PU := hid (put_lit (w.heap.size + 1) u7 LX [xa, xb] w2 HO2.out s2.out #[.int .i64 xa, .int .i64 xb] rfl 2 rfl (by decide) (by intro x hx; simp only [List.mem_cons, List.not_mem_nil, or_false] at hx; rcases hx with rfl | rfl <;> assumption) (by omega))
              have c0 := CX.out.boxE 0 (.int .i64 xa) rfl
              have c1 := CX.out.boxE 1 (.int .i64 xb) rfl
              clear IA IB CX
              go_wp2_with fail
              with_reducible refine PU.out.mono ?_
              rintro e w4 ⟨v4, rfl, h4, k4⟩
              rw [← EZ.out] at h4
              have BX4 := hid (BX2.out.pk k4 (fun e => by have := (HO2.out.1.lt _ e).1; omega))
              have B4 := hid (BR2.out.trans (k4.below (by have := s2.out; omega) (fun g e => by have := (HO2.out.1.lt g e).1; omega)))
              have s4 : Hid (w.heap.size + 1 ≤ w4.heap.size) := by unfold Hid; have := k4.size; have := s2.out; omega
              have HO4 : Hid (Own (w.heap.size + 1) w4 v4 (L10 ++ (hs.take (k + 1)).flatMap h2Z).length (L10 ++ (hs.take (k + 1)).flatMap h2Z)) := by
                unfold Hid
                rw [SN.out, ← List.append_assoc, ELX.out]
                exact h4
              clear PU h4 k4 HO2 BX2 BR2 s2 c0 c1
              go_wp2_with fail
              refine ⟨⟨k + 1, by omega, by go_num, HO4, B4, BX4, s4⟩, ?_⟩
              simp [intOf]; omega
            obtain rfl : hn = k := by omega
            go_upto_region 35 with fail
            have et : hs.take hn = hs := List.take_of_length_le (by rw [LH.out]; exact Nat.le_refl _)
            rw [et] at HO
            rw [← EL10.out] at HO
            have n10 : Hid ((hs.flatMap h2Z).length ≤ 18432) := by unfold Hid; have h1 := flat_le (en := h2Z) (xs := hs) (M := 18) (fun x hx => h2Z_len x); rw [LH.out] at h1; exact Nat.le_trans h1 (by have := Nat.mul_le_mul_right 18 hk1hn; omega)
            generalize hs10 : hs.flatMap h2Z = S10 at *
            have E10 := hid hs10
            clear hs10 et EL10 nl10 hlt hk'
            have H10 := hid HO.out
            have B10 := hid BR.out
            have s10 := hid sr.out
            clear HO BR sr
            generalize wr = W10 at *
            generalize u7 = v10 at *
            go_wp2_with fail
            refine bodyPost_ret (v := .tuple #[v10, .int .i64 0]) (by simp [results, Try.results20, go_sem]) rfl ?_
            rw [T.out]
            refine ⟨_, rfl, fun _ => ?_, (fun h => by cases h), B10.out⟩
            rw [HZ.out]
            exact H10.out.base (by omega)
end Go.Proofs.Ytkjglpgjflkmbaa

namespace Go.Proofs.Ytkjglpgjflkmbaa
open Go.RowKit Go.Deep Go.Maps
set_option linter.unusedVariables false
set_option linter.unusedSimpArgs false

theorem Blk.put {W : World} {Q t i : Nat} {cs : Array Value} (h : Blk W Q t cs) (v : Value) : Blk (W.setCell ⟨Q, i, none⟩ v) Q t (cs.setIfInBounds i v) := heap_setCell_same W Q i cs t v h
theorem Blk.boxD {W : World} {Q t : Nat} {cs : Array Value} (h : Blk W Q t cs) : Box W Q cs := fun i x e => by
  have h' : W.heap[Q]? = some (.cells cs t (0, 0)) := h
  simp [World.cell?, h', e]
theorem Blk.cellAt {W : World} {Q t : Nat} {cs : Array Value} (h : Blk W Q t cs) (i : Nat) (v : Value) (e : cs[i]? = some v) : W.cell? ⟨Q, i, none⟩ = some v := by
  have h' : W.heap[Q]? = some (.cells cs t (0, 0)) := h
  simp [World.cell?, h', e]
theorem Blk.froz {W : World} {Q t i : Nat} {cs : Array Value} (h : Blk W Q t cs) : W.frozen? ⟨Q, i, none⟩ = false := frozen_of_row W Q i cs t h
theorem Blk.there {W : World} {Q t : Nat} {cs : Array Value} (h : Blk W Q t cs) (o n : Nat) (hn : o + n ≤ cs.size) : W.there Q o n := fun j hj => by
  refine ⟨?_, h.froz⟩
  rw [h.cellAt (o + j) (cs[o + j]'(by omega)) (Array.getElem?_eq_getElem _)]
  rfl
/-- Values put into an array's places from o on. -/
def putL (cs : Array Value) : Nat → List Value → Array Value
  | _, [] => cs
  | o, v :: r => putL (cs.setIfInBounds o v) (o + 1) r
theorem Blk.cells {Q t : Nat} : ∀ (vs : List Value) (o : Nat) {W : World} {cs : Array Value} (h : Blk W Q t cs), Blk (W.setCells Q o vs) Q t (putL cs o vs)
  | [], _, _, _, h => h
  | v :: r, o, W, cs, h => by
    rw [World.setCells]
    exact Blk.cells r (o + 1) (h.put v)
theorem Blk.cellsO {Q t : Nat} : ∀ (vs : List Value) (o q : Nat) {W : World} {cs : Array Value} (h : Blk W Q t cs) (hq : Q ≠ q), Blk (W.setCells q o vs) Q t cs
  | [], _, _, _, _, h, _ => h
  | v :: r, o, q, W, cs, h, hq => by
    rw [World.setCells]
    exact Blk.cellsO r (o + 1) q (h.cellO ⟨q, o, none⟩ v hq) hq
theorem setCells_below {n : Nat} {w : World} : ∀ (vs : List Value) (o q : Nat) {W : World}, Below n w W → n ≤ q → Below n w (W.setCells q o vs)
  | [], _, _, _, h, _ => h
  | v :: r, o, q, W, h, hq => by
    rw [World.setCells]
    exact setCells_below r (o + 1) q (h.setCell (p := ⟨q, o, none⟩) hq v) hq
theorem OwnE.cellsO {α : Type} {e : TypeId} {k : Nat} {enc : α → List Value} {base n : Nat} {l : List α} {v : Value} : ∀ (vs : List Value) (o q : Nat) {w : World}, OwnE e k enc base w v n l → q < base → OwnE e k enc base (w.setCells q o vs) v n l
  | [], _, _, _, h, _ => h
  | u :: r, o, q, w, h, hq => by
    rw [World.setCells]
    exact OwnE.cellsO r (o + 1) q (h.cellO ⟨q, o, none⟩ u hq) hq
theorem encN_one : ∀ x, ∀ u ∈ encN x, u.oneCell' = true := by intro x u hu; simp [encN] at hu; subst hu; rfl

set_option maxRecDepth 100000 in
set_option maxHeartbeats 8000000 in
theorem ttask_any (t1 t2 c m wk st : Int) (ta : Option Addr) (tn tc : Nat) (tk : List Int) (w : World) (h : HoldsN w ta tn tc tk) (hm : tn * 8 ≤ 140737488355328) :
    Calls Try.prog 30 #[.agg #[.int .i64 t1, .int .i64 t2, .int .i64 c, .int .i64 m, .int .i64 wk, .slice ta tn tc, .int .i64 st]] w fun e w' => ∃ v, e = .returned (.agg #[.int .i64 t1, .int .i64 t2, .int .i64 c, .int .i64 m, .int .i64 wk, v, .int .i64 st]) ∧ OwnN w.heap.size w' v tn tk ∧ Below w.heap.size w w' := by
  go_enter Try.func30, Try.ntmps30
  go_upto_region 1 with fail
  have B0 := hid (((Below.refl w.heap.size w).alloc (Nat.le_refl _) (.cells #[.int .i64 t1, .int .i64 t2, .int .i64 c, .int .i64 m, .int .i64 wk, .slice ta tn tc, .int .i64 st] 30)).alloc (by simp) (.cells #[.int .i64 0, .int .i64 0, .int .i64 0, .int .i64 0, .int .i64 0, .slice none 0 0, .int .i64 0] 30))
  have X1 := hid ((Blk.alloc w #[.int .i64 t1, .int .i64 t2, .int .i64 c, .int .i64 m, .int .i64 wk, .slice ta tn tc, .int .i64 st] (30)).below ((Below.refl _ _).alloc (Nat.le_refl _) (.cells #[.int .i64 0, .int .i64 0, .int .i64 0, .int .i64 0, .int .i64 0, .slice none 0 0, .int .i64 0] 30)))
  have X2 := hid (Blk.alloc (w.alloc (.cells #[.int .i64 t1, .int .i64 t2, .int .i64 c, .int .i64 m, .int .i64 wk, .slice ta tn tc, .int .i64 st] 30)) #[.int .i64 0, .int .i64 0, .int .i64 0, .int .i64 0, .int .i64 0, .slice none 0 0, .int .i64 0] (30))
  have zs : (w.alloc (.cells #[.int .i64 t1, .int .i64 t2, .int .i64 c, .int .i64 m, .int .i64 wk, .slice ta tn tc, .int .i64 st] 30)).heap.size = w.heap.size + 1 := by simp
  have zt : ((w.alloc (.cells #[.int .i64 t1, .int .i64 t2, .int .i64 c, .int .i64 m, .int .i64 wk, .slice ta tn tc, .int .i64 st] 30)).alloc (.cells #[.int .i64 0, .int .i64 0, .int .i64 0, .int .i64 0, .int .i64 0, .slice none 0 0, .int .i64 0] 30)).heap.size = w.heap.size + 2 := by simp
  rw [zs] at X2
  have HN := hid (h.below B0.out)
  clear h zs
  generalize ((w.alloc (.cells #[.int .i64 t1, .int .i64 t2, .int .i64 c, .int .i64 m, .int .i64 wk, .slice ta tn tc, .int .i64 st] 30)).alloc (.cells #[.int .i64 0, .int .i64 0, .int .i64 0, .int .i64 0, .int .i64 0, .slice none 0 0, .int .i64 0] 30)) = W0 at *
  have c5 := X1.out.cellAt 5 (.slice ta tn tc) rfl
  have b1 := (Below.refl W0.heap.size W0).alloc (Nat.le_refl _) (.cells #[] 3)
  have d5 := keepc b1 c5
  have O0 := hid (OwnE.lit 3 1 encN W0)
  have H1 := hid (HN.out.below b1)
  have Z1 := hid (X1.out.below b1)
  have Z2 := hid (X2.out.below b1)
  have B1 := hid (B0.out.alloc B0.out.size (.cells #[] 3))
  have LS : Hid (w.heap.size + 2 ≤ (W0.alloc (.cells #[] 3)).heap.size) := by unfold Hid; simp; omega
  clear c5 b1 X1 X2 B0 HN
  have Z0 := hid zt
  clear zt
  go_wp2_with (at_builtin; refine cat_ownE 28 3 (.int .i64 0) 8 encN_len encN_one Try.underlying28 infoN rfl (by decide) _ rfl (.tmp 3) (.tmp 5) rfl W0.heap.size 0 (.slice (some ⟨W0.heap.size, 0, none⟩) 0 0) [] rfl O0.out (by simp) ta tn tc tk rfl H1.out (by omega) (by omega) ?_)
  intro v W1 h1 h2 h3
  have O1 : Hid (OwnN W0.heap.size W1 v tn tk) := by unfold Hid; simpa using h1
  have hs := h3.size
  replace Z1 := hid (show Blk W1 w.heap.size _ _ from (h3.block w.heap.size Z1.out.lt (by simp [Value.ownBlock]; have := Z0.out; omega)).trans Z1.out)
  replace Z2 := hid (show Blk W1 (w.heap.size + 1) _ _ from (h3.block (w.heap.size + 1) Z2.out.lt (by simp [Value.ownBlock]; have := Z0.out; omega)).trans Z2.out)
  replace B1 := hid (B1.out.grown h3 (by have := B1.out.size; omega) (fun g e => by simp [Value.ownBlock] at e; have := Z0.out; omega))
  clear h1 h2 h3 H1 O0 d5
  have y5 := Z1.out.cellAt 5 (.slice ta tn tc) rfl
  have f5 : W1.frozen? ⟨w.heap.size, 5, none⟩ = false := Z1.out.froz
  obtain ⟨va, vc, rfl⟩ := O1.out.form
  go_upto_region 2 with fail
  replace Z1 := hid (Z1.out.put (i := 5) (.slice va tn vc))
  replace Z2 := hid (Z2.out.cellO ⟨w.heap.size, 5, none⟩ (.slice va tn vc) (by show w.heap.size + 1 ≠ w.heap.size; omega))
  replace B1 := hid (B1.out.setCell (p := ⟨w.heap.size, 5, none⟩) (Nat.le_refl _) (.slice va tn vc))
  replace O1 := hid (O1.out.cellO ⟨w.heap.size, 5, none⟩ (.slice va tn vc) (by show w.heap.size < W0.heap.size; have := Z0.out; omega))
  clear y5 f5
  generalize W1.setCell ⟨w.heap.size, 5, none⟩ (.slice va tn vc) = W2 at *
  have LD := Z1.out.loadAt Try.underlying30 rfl sizeTask
  have BH := Z2.out
  unfold Blk at BH
  go_wp2_with (first | refine wpList_load_at 30 rfl (.tmp 1) rfl _ _ rfl _ LD ?_ | refine wpList_store_row rfl 30 (.tmp 2) (.tmp 8) rfl (w.heap.size + 1) #[.int .i64 t1, .int .i64 t2, .int .i64 c, .int .i64 m, .int .i64 wk, .slice va tn vc, .int .i64 st] rfl rfl 30 _ BH sizeTask rfl (by simp [Value.oneCell']) ?_)
  refine bodyPost_ret (results_cell rfl rfl ((Z2.out.row #[.int .i64 t1, .int .i64 t2, .int .i64 c, .int .i64 m, .int .i64 wk, .slice va tn vc, .int .i64 st]).loadVar Try.underlying30 rfl sizeTask)) rfl ?_
  exact ⟨_, rfl, (O1.out.row (by have := Z0.out; omega) _).weaken (by have := Z0.out; omega), setRow_below B1.out (by omega)⟩

set_option maxRecDepth 100000 in
set_option maxHeartbeats 8000000 in
theorem tentry_any (gp cl sq kd ci ir bt si q1 q2 q3 q4 q5 q6 q7 n1 n2 n3 n4 n5 t1 t2 c m wk st : Int) (ta : Option Addr) (tn tc : Nat) (tk : List Int) (w : World) (h : HoldsN w ta tn tc tk) (hm : tn * 8 ≤ 140737488355328) :
    Calls Try.prog 11 #[.agg #[.int .i64 gp, .int .i64 cl, .int .i64 sq, .int .i64 kd, .int .i64 ci, .int .i64 ir, .int .i64 bt, .int .i64 si, .int .i64 q1, .int .i64 q2, .int .i64 q3, .int .i64 q4, .int .i64 q5, .int .i64 q6, .int .i64 q7, .int .i64 n1, .int .i64 n2, .int .i64 n3, .int .i64 n4, .int .i64 n5, .int .i64 t1, .int .i64 t2, .int .i64 c, .int .i64 m, .int .i64 wk, .slice ta tn tc, .int .i64 st]] w fun e w' => ∃ v, e = .returned (.agg #[.int .i64 gp, .int .i64 cl, .int .i64 sq, .int .i64 kd, .int .i64 ci, .int .i64 ir, .int .i64 bt, .int .i64 si, .int .i64 q1, .int .i64 q2, .int .i64 q3, .int .i64 q4, .int .i64 q5, .int .i64 q6, .int .i64 q7, .int .i64 n1, .int .i64 n2, .int .i64 n3, .int .i64 n4, .int .i64 n5, .int .i64 t1, .int .i64 t2, .int .i64 c, .int .i64 m, .int .i64 wk, v, .int .i64 st]) ∧ OwnN w.heap.size w' v tn tk ∧ Below w.heap.size w w' := by
  go_enter Try.func11, Try.ntmps11
  go_upto_region 1 with fail
  have B0 := hid (((Below.refl w.heap.size w).alloc (Nat.le_refl _) (.cells #[.int .i64 gp, .int .i64 cl, .int .i64 sq, .int .i64 kd, .int .i64 ci, .int .i64 ir, .int .i64 bt, .int .i64 si, .int .i64 q1, .int .i64 q2, .int .i64 q3, .int .i64 q4, .int .i64 q5, .int .i64 q6, .int .i64 q7, .int .i64 n1, .int .i64 n2, .int .i64 n3, .int .i64 n4, .int .i64 n5, .int .i64 t1, .int .i64 t2, .int .i64 c, .int .i64 m, .int .i64 wk, .slice ta tn tc, .int .i64 st] 34)).alloc (by simp) (.cells #[.int .i64 0, .int .i64 0, .int .i64 0, .int .i64 0, .int .i64 0, .int .i64 0, .int .i64 0, .int .i64 0, .int .i64 0, .int .i64 0, .int .i64 0, .int .i64 0, .int .i64 0, .int .i64 0, .int .i64 0, .int .i64 0, .int .i64 0, .int .i64 0, .int .i64 0, .int .i64 0, .int .i64 0, .int .i64 0, .int .i64 0, .int .i64 0, .int .i64 0, .slice none 0 0, .int .i64 0] 34))
  have X1 := hid ((Blk.alloc w #[.int .i64 gp, .int .i64 cl, .int .i64 sq, .int .i64 kd, .int .i64 ci, .int .i64 ir, .int .i64 bt, .int .i64 si, .int .i64 q1, .int .i64 q2, .int .i64 q3, .int .i64 q4, .int .i64 q5, .int .i64 q6, .int .i64 q7, .int .i64 n1, .int .i64 n2, .int .i64 n3, .int .i64 n4, .int .i64 n5, .int .i64 t1, .int .i64 t2, .int .i64 c, .int .i64 m, .int .i64 wk, .slice ta tn tc, .int .i64 st] (34)).below ((Below.refl _ _).alloc (Nat.le_refl _) (.cells #[.int .i64 0, .int .i64 0, .int .i64 0, .int .i64 0, .int .i64 0, .int .i64 0, .int .i64 0, .int .i64 0, .int .i64 0, .int .i64 0, .int .i64 0, .int .i64 0, .int .i64 0, .int .i64 0, .int .i64 0, .int .i64 0, .int .i64 0, .int .i64 0, .int .i64 0, .int .i64 0, .int .i64 0, .int .i64 0, .int .i64 0, .int .i64 0, .int .i64 0, .slice none 0 0, .int .i64 0] 34)))
  have X2 := hid (Blk.alloc (w.alloc (.cells #[.int .i64 gp, .int .i64 cl, .int .i64 sq, .int .i64 kd, .int .i64 ci, .int .i64 ir, .int .i64 bt, .int .i64 si, .int .i64 q1, .int .i64 q2, .int .i64 q3, .int .i64 q4, .int .i64 q5, .int .i64 q6, .int .i64 q7, .int .i64 n1, .int .i64 n2, .int .i64 n3, .int .i64 n4, .int .i64 n5, .int .i64 t1, .int .i64 t2, .int .i64 c, .int .i64 m, .int .i64 wk, .slice ta tn tc, .int .i64 st] 34)) #[.int .i64 0, .int .i64 0, .int .i64 0, .int .i64 0, .int .i64 0, .int .i64 0, .int .i64 0, .int .i64 0, .int .i64 0, .int .i64 0, .int .i64 0, .int .i64 0, .int .i64 0, .int .i64 0, .int .i64 0, .int .i64 0, .int .i64 0, .int .i64 0, .int .i64 0, .int .i64 0, .int .i64 0, .int .i64 0, .int .i64 0, .int .i64 0, .int .i64 0, .slice none 0 0, .int .i64 0] (34))
  have zs : (w.alloc (.cells #[.int .i64 gp, .int .i64 cl, .int .i64 sq, .int .i64 kd, .int .i64 ci, .int .i64 ir, .int .i64 bt, .int .i64 si, .int .i64 q1, .int .i64 q2, .int .i64 q3, .int .i64 q4, .int .i64 q5, .int .i64 q6, .int .i64 q7, .int .i64 n1, .int .i64 n2, .int .i64 n3, .int .i64 n4, .int .i64 n5, .int .i64 t1, .int .i64 t2, .int .i64 c, .int .i64 m, .int .i64 wk, .slice ta tn tc, .int .i64 st] 34)).heap.size = w.heap.size + 1 := by simp
  have zt : ((w.alloc (.cells #[.int .i64 gp, .int .i64 cl, .int .i64 sq, .int .i64 kd, .int .i64 ci, .int .i64 ir, .int .i64 bt, .int .i64 si, .int .i64 q1, .int .i64 q2, .int .i64 q3, .int .i64 q4, .int .i64 q5, .int .i64 q6, .int .i64 q7, .int .i64 n1, .int .i64 n2, .int .i64 n3, .int .i64 n4, .int .i64 n5, .int .i64 t1, .int .i64 t2, .int .i64 c, .int .i64 m, .int .i64 wk, .slice ta tn tc, .int .i64 st] 34)).alloc (.cells #[.int .i64 0, .int .i64 0, .int .i64 0, .int .i64 0, .int .i64 0, .int .i64 0, .int .i64 0, .int .i64 0, .int .i64 0, .int .i64 0, .int .i64 0, .int .i64 0, .int .i64 0, .int .i64 0, .int .i64 0, .int .i64 0, .int .i64 0, .int .i64 0, .int .i64 0, .int .i64 0, .int .i64 0, .int .i64 0, .int .i64 0, .int .i64 0, .int .i64 0, .slice none 0 0, .int .i64 0] 34)).heap.size = w.heap.size + 2 := by simp
  rw [zs] at X2
  have HN := h.below B0.out
  clear h zs
  generalize ((w.alloc (.cells #[.int .i64 gp, .int .i64 cl, .int .i64 sq, .int .i64 kd, .int .i64 ci, .int .i64 ir, .int .i64 bt, .int .i64 si, .int .i64 q1, .int .i64 q2, .int .i64 q3, .int .i64 q4, .int .i64 q5, .int .i64 q6, .int .i64 q7, .int .i64 n1, .int .i64 n2, .int .i64 n3, .int .i64 n4, .int .i64 n5, .int .i64 t1, .int .i64 t2, .int .i64 c, .int .i64 m, .int .i64 wk, .slice ta tn tc, .int .i64 st] 34)).alloc (.cells #[.int .i64 0, .int .i64 0, .int .i64 0, .int .i64 0, .int .i64 0, .int .i64 0, .int .i64 0, .int .i64 0, .int .i64 0, .int .i64 0, .int .i64 0, .int .i64 0, .int .i64 0, .int .i64 0, .int .i64 0, .int .i64 0, .int .i64 0, .int .i64 0, .int .i64 0, .int .i64 0, .int .i64 0, .int .i64 0, .int .i64 0, .int .i64 0, .int .i64 0, .slice none 0 0, .int .i64 0] 34)) = W0 at *
  have C := hid (ttask_any t1 t2 c m wk st ta tn tc tk W0 HN hm)
  have LD := run_loadAt_mid (P := Try.prog) W0 w.heap.size 20 30 (#[.int .i64 t1, .int .i64 t2, .int .i64 c, .int .i64 m, .int .i64 wk, .slice ta tn tc, .int .i64 st] : Array Value).toList _ (Box.mid X1.out.boxD 20 7 _ rfl) Try.underlying30 rfl sizeTask
  clear HN
  have Z0 := hid zt
  clear zt
  go_wp2_with (refine wpList_load_at 30 rfl (.tmp 4) rfl _ _ rfl _ LD ?_)
  clear LD
  with_reducible refine C.out.mono ?_
  rintro e W1 ⟨v, rfl, h1, b1⟩
  have O1 := hid h1
  replace X1 := hid (X1.out.below b1)
  replace X2 := hid (X2.out.below b1)
  have B1 := hid (B0.out.trans (b1.mono B0.out.size))
  clear C h1 b1 B0
  obtain ⟨va, vc, rfl⟩ := O1.out.form
  have TH := X1.out.there 20 7 (Nat.le_refl 27)
  go_upto_region 2 with (refine wpList_store_mid rfl 30 (.tmp 8) (.tmp 6) rfl w.heap.size 20 #[.int .i64 t1, .int .i64 t2, .int .i64 c, .int .i64 m, .int .i64 wk, .slice va tn vc, .int .i64 st] rfl rfl TH sizeTask (by simp [Value.oneCell']) ?_)
  clear TH
  replace X1 := hid (X1.out.cells (#[.int .i64 t1, .int .i64 t2, .int .i64 c, .int .i64 m, .int .i64 wk, .slice va tn vc, .int .i64 st] : Array Value).toList 20)
  replace X2 := hid (X2.out.cellsO (#[.int .i64 t1, .int .i64 t2, .int .i64 c, .int .i64 m, .int .i64 wk, .slice va tn vc, .int .i64 st] : Array Value).toList 20 w.heap.size (by omega))
  replace B1 := hid (setCells_below (#[.int .i64 t1, .int .i64 t2, .int .i64 c, .int .i64 m, .int .i64 wk, .slice va tn vc, .int .i64 st] : Array Value).toList 20 w.heap.size B1.out (Nat.le_refl _))
  replace O1 := hid (O1.out.cellsO (#[.int .i64 t1, .int .i64 t2, .int .i64 c, .int .i64 m, .int .i64 wk, .slice va tn vc, .int .i64 st] : Array Value).toList 20 w.heap.size (by have := Z0.out; omega))
  generalize W1.setCells w.heap.size 20 (#[.int .i64 t1, .int .i64 t2, .int .i64 c, .int .i64 m, .int .i64 wk, .slice va tn vc, .int .i64 st] : Array Value).toList = W2 at *
  have X1' : Blk W2 w.heap.size 34 #[.int .i64 gp, .int .i64 cl, .int .i64 sq, .int .i64 kd, .int .i64 ci, .int .i64 ir, .int .i64 bt, .int .i64 si, .int .i64 q1, .int .i64 q2, .int .i64 q3, .int .i64 q4, .int .i64 q5, .int .i64 q6, .int .i64 q7, .int .i64 n1, .int .i64 n2, .int .i64 n3, .int .i64 n4, .int .i64 n5, .int .i64 t1, .int .i64 t2, .int .i64 c, .int .i64 m, .int .i64 wk, .slice va tn vc, .int .i64 st] := X1.out
  have LD := X1'.loadAt Try.underlying34 rfl sizeEnt
  have BH := X2.out
  unfold Blk at BH
  go_wp2_with (first | refine wpList_load_at 34 rfl (.tmp 1) rfl _ _ rfl _ LD ?_ | refine wpList_store_row rfl 34 (.tmp 2) (.tmp 9) rfl (w.heap.size + 1) #[.int .i64 gp, .int .i64 cl, .int .i64 sq, .int .i64 kd, .int .i64 ci, .int .i64 ir, .int .i64 bt, .int .i64 si, .int .i64 q1, .int .i64 q2, .int .i64 q3, .int .i64 q4, .int .i64 q5, .int .i64 q6, .int .i64 q7, .int .i64 n1, .int .i64 n2, .int .i64 n3, .int .i64 n4, .int .i64 n5, .int .i64 t1, .int .i64 t2, .int .i64 c, .int .i64 m, .int .i64 wk, .slice va tn vc, .int .i64 st] rfl rfl 34 _ BH sizeEnt rfl (by simp [Value.oneCell']) ?_)
  refine bodyPost_ret (results_cell rfl rfl ((X2.out.row #[.int .i64 gp, .int .i64 cl, .int .i64 sq, .int .i64 kd, .int .i64 ci, .int .i64 ir, .int .i64 bt, .int .i64 si, .int .i64 q1, .int .i64 q2, .int .i64 q3, .int .i64 q4, .int .i64 q5, .int .i64 q6, .int .i64 q7, .int .i64 n1, .int .i64 n2, .int .i64 n3, .int .i64 n4, .int .i64 n5, .int .i64 t1, .int .i64 t2, .int .i64 c, .int .i64 m, .int .i64 wk, .slice va tn vc, .int .i64 st]).loadVar Try.underlying34 rfl sizeEnt)) rfl ?_
  exact ⟨_, rfl, (O1.out.row (by have := Z0.out; omega) _).weaken (by have := Z0.out; omega), setRow_below B1.out (by omega)⟩
end Go.Proofs.Ytkjglpgjflkmbaa

namespace Go.Proofs.Ytkjglpgjflkmbaa
open Go.RowKit Go.Deep Go.Maps
set_option linter.unusedVariables false
set_option linter.unusedSimpArgs false

set_option maxRecDepth 100000 in
theorem infoLea : (Try.prog.info? 138).map (fun i => (i.zero, i.size, i.bytes)) = some (some (.agg #[.int .i64 0, .int .i64 0, .int .i64 0, .slice none 0 0, .int .i64 0, .int .i64 0, .int .i64 0, .bool false]), 8, 80) := by kernel_rfl
theorem same_snoc {ls ls' : List Le} {k : Nat} {y : Le} (h : ∀ j (g1 : j < ls.length) (g2 : j < ls'.length), LeSame ls[j] ls'[j]) (hl : ls'.length = k) (hk : k < ls.length) (hy : LeSame ls[k] y) : ∀ j (g1 : j < ls.length) (g2 : j < (ls' ++ [y]).length), LeSame ls[j] (ls' ++ [y])[j] := fun j g1 g2 => by
  by_cases hj : j < ls'.length
  · rw [List.getElem_append_left hj]; exact h j g1 hj
  · have e : j = k := by rw [List.length_append] at g2; simp at g2; omega
    subst e
    rw [List.getElem_append_right (by omega)]
    simp only [hl, Nat.sub_self, List.getElem_cons_zero]
    exact hy

theorem OwnE.cellN {α : Type} {e : TypeId} {k : Nat} {enc : α → List Value} {base n : Nat} {l : List α} {v : Value} {w : World} (h : OwnE e k enc base w v n l) (a : Addr) (u : Value) (h1 : ∀ g, v.ownBlock = some g → g ≠ a.block) : OwnE e k enc base (w.setCell a u) v n l := by
  obtain ⟨h0, h3, h4⟩ := h
  refine ⟨h0, h3, ?_⟩
  rcases h4 with h4 | ⟨g, cap, cur, hv, hg, hh, r⟩
  · exact .inl h4
  · exact .inr ⟨g, cap, cur, hv, hg, (Below.heap_setCell w a u g (h1 g (by rw [hv]; rfl))).trans hh, r⟩
/-- Rows of two types lie in two blocks. -/
theorem own_ne {α β : Type} {e e' : TypeId} {k k' : Nat} {enc : α → List Value} {enc' : β → List Value} {base base' n n' : Nat} {l : List α} {l' : List β} {v v' : Value} {w : World} (h : OwnE e k enc base w v n l) (h' : OwnE e' k' enc' base' w v' n' l') (hne : e ≠ e') : ∀ g, v.ownBlock = some g → v'.ownBlock ≠ some g := fun g hg hg' => by
  rcases h.2.2 with ⟨rfl, _⟩ | ⟨b, cap, cur, rfl, _, hh, _⟩
  · simp [Value.ownBlock] at hg
  · rcases h'.2.2 with ⟨rfl, _⟩ | ⟨b', cap', cur', rfl, _, hh', _⟩
    · simp [Value.ownBlock] at hg'
    · simp [Value.ownBlock] at hg hg'
      subst hg hg'
      rw [hh] at hh'
      simp at hh'
      exact hne hh'.2
theorem OwnE.grownN {α : Type} {e : TypeId} {k : Nat} {enc : α → List Value} {base n : Nat} {l : List α} {v : Value} {w w' : World} (h : OwnE e k enc base w v n l) {row : Option Nat} (hg : w.grownBy w' row) (h1 : ∀ g, v.ownBlock = some g → row ≠ some g) : OwnE e k enc base w' v n l :=
  ⟨h.1, h.2.kept hg (by
    cases hv : v.ownBlock with
    | none => exact .inl rfl
    | some g => exact .inr (fun e => h1 g hv e.symm))⟩
set_option maxRecDepth 100000 in
set_option maxHeartbeats 8000000 in
theorem tleases_any (a : Option Addr) (n c : Nat) (ls : List Le) (w : World) (h : HoldsE 8 Le.cs w a n c ls) (ha : ∀ x ∈ ls, HoldsN w x.sa x.sl x.sc x.co) (hs : c * 80 ≤ 140737488351232) (hn : ∀ x ∈ ls, x.sc * 8 ≤ 140737488351232) :
    Calls Try.prog 44 #[.slice a n c] w fun e w' => ∃ v ls', e = .returned v ∧ OwnE 138 8 Le.cs w.heap.size w' v n ls' ∧ (∀ k (g1 : k < ls.length) (g2 : k < ls'.length), LeSame ls[k] ls'[k]) ∧ (∀ x ∈ ls', OwnN w.heap.size w' (.slice x.sa x.sl x.sc) x.sl x.co) ∧ Below w.heap.size w w' := by
  have HN := hid h.1
  have RA := hid (fun hp => h.rangeAt hp)
  have HA := hid ha
  have HS := hid hn
  have tcap := h.2.1
  have tcm := h.2.2.1
  clear h ha hn
  go_enter Try.func44, Try.ntmps44
  go_wp2_with fail
  go_loopw [3, 8] (fun v i wr => ∃ k : Nat, k ≤ n ∧ i = .int .i64 (k : Int) ∧ ∃ ls', Hid (OwnE 138 8 Le.cs w.heap.size wr v k ls') ∧ Hid (∀ j (g1 : j < ls.length) (g2 : j < ls'.length), LeSame ls[j] ls'[j]) ∧ Hid (∀ x ∈ ls', OwnN w.heap.size wr (.slice x.sa x.sl x.sc) x.sl x.co) ∧ Hid (Below w.heap.size w wr)) (fun _ i _ => n - (intOf i).toNat)
  case atStart => exact ⟨0, by omega, rfl, [], OwnE.nil _ _ _ _ _, (fun j _ g => absurd g (by simp)), (fun x hx => by cases hx), Below.refl _ _⟩
  case round =>
    obtain ⟨k, hk', rfl, ls', HO, HL, HH, BR⟩ := hrel
    have hlk : Hid (ls'.length = k) := HO.out.len
    by_cases hlt : k < n
    · have hlt' : k < ls.length := by rw [HN.out]; exact hlt
      obtain ⟨b, off, rfl, hbl, RI⟩ := RA.out (by omega)
      have RG := rangeAt_below (RI k ls[k] (List.getElem?_eq_getElem hlt')) BR.out
      have hmem := List.getElem_mem hlt'
      have HC := hid ((HA.out _ hmem).below BR.out)
      have HCS := HS.out _ hmem
      have SN := hid (fun y => same_snoc (y := y) HL.out hlk.out hlt')
      have ka : (0 : Int) ≤ (k : Int) := by omega
      have kb : (k : Int) < (n : Int) := by omega
      clear RI hmem
      generalize ls[k] = X at *
      obtain ⟨x0, x1, x2, sa, sl, sc, x4, x5, x6, x7, co⟩ := X
      simp only at HC HCS
      have hsl := HC.out.2.1
      go_upto_region 5 with (first | refine wpList_load_mid rfl 138 (.tmp 10) rfl _ _ rfl _ _ RG Try.underlying138 rfl sizeLease ?_ | refine wpList_store_row rfl 138 (.tmp 5) (.tmp 11) rfl wr.heap.size #[.int .i64 x0, .int .i64 x1, .int .i64 x2, .slice sa sl sc, .int .i64 x4, .int .i64 x5, .int .i64 x6, .bool x7] rfl rfl 138 _ (heap_alloc_new wr _) sizeLease rfl (by simp [Value.oneCell']) ?_)
      rw [alloc_row]
      have b2 := (Below.refl wr.heap.size wr).alloc (Nat.le_refl _) (.cells #[.int .i64 x0, .int .i64 x1, .int .i64 x2, .slice sa sl sc, .int .i64 x4, .int .i64 x5, .int .i64 x6, .bool x7] 138)
      have X1 := hid (Blk.alloc wr #[.int .i64 x0, .int .i64 x1, .int .i64 x2, .slice sa sl sc, .int .i64 x4, .int .i64 x5, .int .i64 x6, .bool x7] (138))
      have O2 := hid (HO.out.below b2)
      have H2 := hid (fun x hx => (HH.out x hx).below b2)
      have C2 := hid (HC.out.below b2)
      have B2 := hid (BR.out.alloc BR.out.size (.cells #[.int .i64 x0, .int .i64 x1, .int .i64 x2, .slice sa sl sc, .int .i64 x4, .int .i64 x5, .int .i64 x6, .bool x7] 138))
      have QL : Hid (w.heap.size ≤ wr.heap.size) := BR.out.size
      have QO : Hid (∀ g, u3.ownBlock = some g → g < wr.heap.size) := fun g e => (HO.out.lt g e).2
      have QH : Hid (∀ x ∈ ls', ∀ g, (Value.slice x.sa x.sl x.sc).ownBlock = some g → g < wr.heap.size) := fun x hx g e => ((HH.out x hx).lt g e).2
      clear RG b2 HO HH HC BR
      generalize wr.alloc (.cells #[.int .i64 x0, .int .i64 x1, .int .i64 x2, .slice sa sl sc, .int .i64 x4, .int .i64 x5, .int .i64 x6, .bool x7] 138) = w2 at *
      generalize wr.heap.size = Q at *
      have c3 := X1.out.cellAt 3 (.slice sa sl sc) rfl
      have b3 := (Below.refl w2.heap.size w2).alloc (Nat.le_refl _) (.cells #[] 3)
      have d3 := keepc b3 c3
      have O0 := hid (OwnE.lit 3 1 encN w2)
      have C3 := hid (C2.out.below b3)
      have X3 := hid (X1.out.below b3)
      have O3 := hid (O2.out.below b3)
      have H3 := hid (fun x hx => (H2.out x hx).below b3)
      have B3 := hid (B2.out.alloc B2.out.size (.cells #[] 3))
      have QW : Hid (Q < w2.heap.size) := X1.out.lt
      clear c3 b3 X1 O2 H2 C2 B2
      go_wp2_with (at_builtin; refine cat_ownE 28 3 (.int .i64 0) 8 encN_len encN_one Try.underlying28 infoN rfl (by decide) _ rfl (.tmp 12) (.tmp 14) rfl w2.heap.size 0 (.slice (some ⟨w2.heap.size, 0, none⟩) 0 0) [] rfl O0.out (by simp) sa sl sc co rfl C3.out (by omega) (by omega) ?_)
      intro v5 w5 h5 k5 g5
      have O5 : Hid (OwnN w2.heap.size w5 v5 sl co) := by unfold Hid; simpa using h5
      have hs5 := g5.size
      have X5 := hid (show Blk w5 Q _ _ from (g5.block Q X3.out.lt (by simp [Value.ownBlock]; have := QW.out; omega)).trans X3.out)
      have OB5 : Hid (OwnE 138 8 Le.cs w.heap.size w5 u3 k ls') := ⟨O3.out.1, O3.out.2.kept g5 (by
        cases hv : u3.ownBlock with
        | none => exact .inl rfl
        | some g => exact .inr (fun e => by simp [Value.ownBlock] at e; have := QO.out g hv; have := QW.out; omega))⟩
      have B5 := hid (B3.out.trans (k5.mono (by have := QL.out; have := QW.out; omega)))
      have H5 : Hid (∀ x ∈ ls', OwnN w.heap.size w5 (.slice x.sa x.sl x.sc) x.sl x.co) := fun x hx => (H3.out x hx).grownN g5 (fun g e e2 => by simp [Value.ownBlock] at e2; have := QH.out x hx g e; have := QW.out; omega)
      clear h5 k5 g5 X3 O3 H3 B3 C3 O0 d3
      obtain ⟨va, vc, rfl⟩ := O5.out.form
      have y3 := X5.out.cellAt 3 (.slice sa sl sc) rfl
      have f3 : w5.frozen? ⟨Q, 3, none⟩ = false := X5.out.froz
      go_upto_region 6 with fail
      have X6 : Hid (Blk (w5.setCell ⟨Q, 3, none⟩ (.slice va sl vc)) Q 138 #[.int .i64 x0, .int .i64 x1, .int .i64 x2, .slice va sl vc, .int .i64 x4, .int .i64 x5, .int .i64 x6, .bool x7]) := X5.out.put (i := 3) (.slice va sl vc)
      have O6 := hid (O5.out.cellO ⟨Q, 3, none⟩ (.slice va sl vc) QW.out)
      have OB6 := hid (OB5.out.cellN ⟨Q, 3, none⟩ (.slice va sl vc) (fun g e => by have := QO.out g e; show g ≠ Q; omega))
      have H6 : Hid (∀ x ∈ ls', OwnN w.heap.size (w5.setCell ⟨Q, 3, none⟩ (.slice va sl vc)) (.slice x.sa x.sl x.sc) x.sl x.co) := fun x hx => (H5.out x hx).cellN _ _ (fun g e => by have := QH.out x hx g e; show g ≠ Q; omega)
      have B6 := hid (B5.out.setCell (p := ⟨Q, 3, none⟩) QL.out (.slice va sl vc))
      clear y3 f3 X5 O5 OB5 H5 B5
      generalize w5.setCell ⟨Q, 3, none⟩ (.slice va sl vc) = w6 at *
      have LD := X6.out.loadAt Try.underlying138 rfl sizeLease
      have NL : Hid ((k + 1) * 80 ≤ 140737488355328) := by unfold Hid; omega
      have s6 : Hid (w.heap.size ≤ w6.heap.size) := B6.out.size
      go_wp2_with (first | refine wpList_load_at 138 rfl (.tmp 5) rfl _ _ rfl _ LD ?_ | (at_builtin; refine push_ownE 44 138 _ 80 Le.cs_len Le.one Try.underlying44 infoLea rfl (by decide) w6 (⟨x0, x1, x2, va, sl, vc, x4, x5, x6, x7, co⟩ : Le) rfl (.tmp 17) (.tmp 19) rfl w.heap.size k u3 ls' #[.int .i64 x0, .int .i64 x1, .int .i64 x2, .slice va sl vc, .int .i64 x4, .int .i64 x5, .int .i64 x6, .bool x7] rfl rfl OB6.out s6.out (by simp [Act.eval]) (by omega) NL.out ?_))
      intro v7 w7 h7 b7 g7
      have O7 := hid h7
      have B7 := hid (B6.out.trans b7)
      have HS7 := hid (SN.out (⟨x0, x1, x2, va, sl, vc, x4, x5, x6, x7, co⟩ : Le) ⟨rfl, rfl, rfl, rfl, rfl, rfl, rfl, rfl, rfl⟩)
      have H7 : Hid (∀ x ∈ ls' ++ [(⟨x0, x1, x2, va, sl, vc, x4, x5, x6, x7, co⟩ : Le)], OwnN w.heap.size w7 (.slice x.sa x.sl x.sc) x.sl x.co) := fun x hx => by
        rcases List.mem_append.1 hx with hx | hx
        · exact (H6.out x hx).grownN g7 (own_ne (H6.out x hx) OB6.out (by decide))
        · simp only [List.mem_singleton] at hx
          subst hx
          exact (O6.out.grownN g7 (own_ne O6.out OB6.out (by decide))).weaken (by have := QW.out; have := QL.out; omega)
      clear h7 b7 g7 O6 OB6 H6 B6 X6 LD
      go_wp2_with fail
      refine ⟨⟨k + 1, by omega, by go_num, _, O7, HS7, H7, B7⟩, ?_⟩
      simp [intOf]; omega
    · obtain rfl : n = k := by omega
      go_wp2_with fail
      go_ret
      exact ⟨_, ls', rfl, HO.out, HL.out, HH.out, BR.out⟩
end Go.Proofs.Ytkjglpgjflkmbaa

namespace Go.Proofs.Ytkjglpgjflkmbaa
open Go.RowKit Go.Deep Go.Maps
set_option linter.unusedVariables false
set_option linter.unusedSimpArgs false
set_option maxRecDepth 100000 in
theorem infoQue : (Try.prog.info? 25).map (fun i => (i.zero, i.size, i.bytes)) = some (some (.agg #[.int .i64 0, .int .i64 0, .int .i64 0, .int .i64 0, .int .i64 0, .int .i64 0, .int .i64 0]), 7, 56) := by kernel_rfl
set_option maxRecDepth 100000 in
theorem infoNod : (Try.prog.info? 27).map (fun i => (i.zero, i.size, i.bytes)) = some (some (.agg #[.int .i64 0, .int .i64 0, .int .i64 0, .int .i64 0, .int .i64 0]), 5, 40) := by kernel_rfl
set_option maxRecDepth 100000 in
theorem infoTas : (Try.prog.info? 30).map (fun i => (i.zero, i.size, i.bytes)) = some (some (.agg #[.int .i64 0, .int .i64 0, .int .i64 0, .int .i64 0, .int .i64 0, .slice none 0 0, .int .i64 0]), 7, 72) := by kernel_rfl
set_option maxRecDepth 100000 in
theorem infoHun : (Try.prog.info? 94).map (fun i => (i.zero, i.size, i.bytes)) = some (some (.agg #[.int .i64 0, .int .i64 0]), 2, 16) := by kernel_rfl
theorem tsame_snoc {ls ls' : List T7} {k : Nat} {y : T7} (h : ∀ j (g1 : j < ls.length) (g2 : j < ls'.length), TaSame ls[j] ls'[j]) (hl : ls'.length = k) (hk : k < ls.length) (hy : TaSame ls[k] y) : ∀ j (g1 : j < ls.length) (g2 : j < (ls' ++ [y]).length), TaSame ls[j] (ls' ++ [y])[j] := fun j g1 g2 => by
  by_cases hj : j < ls'.length
  · rw [List.getElem_append_left hj]; exact h j g1 hj
  · have e : j = k := by rw [List.length_append] at g2; simp at g2; omega
    subst e
    rw [List.getElem_append_right (by omega)]
    simp only [hl, Nat.sub_self, List.getElem_cons_zero]
    exact hy
theorem ttask_el (x : T7) (w : World) (h : HoldsN w x.sa x.sl x.sc x.tk) (hm : x.sl * 8 ≤ 140737488355328) :
    Calls Try.prog 30 #[.agg x.cs.toArray] w fun e w' => ∃ y : T7, e = .returned (.agg #[.int .i64 y.t1, .int .i64 y.t2, .int .i64 y.c, .int .i64 y.m, .int .i64 y.wk, .slice y.sa y.sl y.sc, .int .i64 y.st]) ∧ OwnN w.heap.size w' (.slice y.sa y.sl y.sc) y.sl y.tk ∧ TaSame x y ∧ Below w.heap.size w w' := by
  obtain ⟨t1, t2, c, m, wk, sa, sl, sc, st, tk⟩ := x
  refine (ttask_any t1 t2 c m wk st sa sl sc tk w h hm).mono ?_
  rintro e w' ⟨v, rfl, h1, h2⟩
  obtain ⟨va, vc, rfl⟩ := h1.form
  exact ⟨⟨t1, t2, c, m, wk, va, sl, vc, st, tk⟩, rfl, h1, ⟨rfl, rfl, rfl, rfl, rfl, rfl, rfl, rfl⟩, h2⟩
set_option maxRecDepth 100000 in
set_option maxHeartbeats 16000000 in
theorem tstate_any (lo pa no : Int) (qa : Option Addr) (qn qc : Nat) (qs : List Q7) (na : Option Addr) (nn nc : Nat) (ns : List N5) (ta : Option Addr) (tn tc : Nat) (ts : List T7) (la : Option Addr) (ln lc : Nat) (ls : List Le) (ha : Option Addr) (hn hc : Nat) (hs : List H2) (w : World) (hqs : HoldsE 7 Q7.cs w qa qn qc qs) (hns : HoldsE 5 N5.cs w na nn nc ns) (hts : HoldsE 7 T7.cs w ta tn tc ts) (hta : ∀ x ∈ ts, HoldsN w x.sa x.sl x.sc x.tk) (hls : HoldsE 8 Le.cs w la ln lc ls) (hla : ∀ x ∈ ls, HoldsN w x.sa x.sl x.sc x.co) (hhs : HoldsE 2 H2.cs w ha hn hc hs)
    (sz : qc * 56 ≤ 140737488351232 ∧ nc * 40 ≤ 140737488351232 ∧ (tc * 72 ≤ 140737488351232 ∧ ∀ q ∈ ts, q.sc * 8 ≤ 140737488351232) ∧ (lc * 80 ≤ 140737488351232 ∧ ∀ q ∈ ls, q.sc * 8 ≤ 140737488351232) ∧ hc * 16 ≤ 140737488351232) :
    Calls Try.prog 18 #[.agg #[.int .i64 lo, .int .i64 pa, .int .i64 no, .slice qa qn qc, .slice na nn nc, .slice ta tn tc, .slice la ln lc, .slice ha hn hc]] w fun e w' => ∃ (qb : Option Addr) (qd : Nat) (nb : Option Addr) (nd : Nat) (tb : Option Addr) (td : Nat) (ts' : List T7) (lb : Option Addr) (ld : Nat) (ls' : List Le) (hb : Option Addr) (hd : Nat), e = .returned (.agg #[.int .i64 lo, .int .i64 pa, .int .i64 no, .slice qb qn qd, .slice nb nn nd, .slice tb tn td, .slice lb ln ld, .slice hb hn hd]) ∧ HoldsE 7 Q7.cs w' qb qn qd qs ∧ HoldsE 5 N5.cs w' nb nn nd ns ∧ (HoldsE 7 T7.cs w' tb tn td ts' ∧ (∀ x ∈ ts', HoldsN w' x.sa x.sl x.sc x.tk) ∧ ∀ k (g1 : k < ts.length) (g2 : k < ts'.length), TaSame ts[k] ts'[k]) ∧ (HoldsE 8 Le.cs w' lb ln ld ls' ∧ (∀ x ∈ ls', HoldsN w' x.sa x.sl x.sc x.co) ∧ ∀ k (g1 : k < ls.length) (g2 : k < ls'.length), LeSame ls[k] ls'[k]) ∧ HoldsE 2 H2.cs w' hb hn hd hs ∧ Below w.heap.size w w' := by
  obtain ⟨z1, z2, ⟨z3, z4⟩, ⟨z5, z6⟩, z7⟩ := sz
  have SQ := hid hqs
  have SN := hid hns
  have STA := hid hta
  have RT := hid (fun hp => hts.rangeAt hp)
  have HTN := hid hts.1
  have SL := hid hls
  have SLA := hid hla
  have SH := hid hhs
  have Z4 := hid z4
  have Z6 := hid z6
  have q1 := hqs.2.1
  have q2 := hns.2.1
  have q3 := hts.2.1
  have q4 := hls.2.1
  have q5 := hhs.2.1
  have q6 := hts.2.2.1
  clear hqs hns hts hta hls hla hhs z4 z6
  go_enter Try.func18, Try.ntmps18
  go_upto_region 1 with fail
  have B := hid (((Below.refl w.heap.size w).alloc (Nat.le_refl _) (.cells #[.int .i64 lo, .int .i64 pa, .int .i64 no, .slice qa qn qc, .slice na nn nc, .slice ta tn tc, .slice la ln lc, .slice ha hn hc] 54)).alloc (by simp) (.cells #[.int .i64 0, .int .i64 0, .int .i64 0, .slice none 0 0, .slice none 0 0, .slice none 0 0, .slice none 0 0, .slice none 0 0] 54))
  have X1 := hid ((Blk.alloc w #[.int .i64 lo, .int .i64 pa, .int .i64 no, .slice qa qn qc, .slice na nn nc, .slice ta tn tc, .slice la ln lc, .slice ha hn hc] (54)).below ((Below.refl _ _).alloc (Nat.le_refl _) (.cells #[.int .i64 0, .int .i64 0, .int .i64 0, .slice none 0 0, .slice none 0 0, .slice none 0 0, .slice none 0 0, .slice none 0 0] 54)))
  have X2 := hid (Blk.alloc (w.alloc (.cells #[.int .i64 lo, .int .i64 pa, .int .i64 no, .slice qa qn qc, .slice na nn nc, .slice ta tn tc, .slice la ln lc, .slice ha hn hc] 54)) #[.int .i64 0, .int .i64 0, .int .i64 0, .slice none 0 0, .slice none 0 0, .slice none 0 0, .slice none 0 0, .slice none 0 0] (54))
  have zs : (w.alloc (.cells #[.int .i64 lo, .int .i64 pa, .int .i64 no, .slice qa qn qc, .slice na nn nc, .slice ta tn tc, .slice la ln lc, .slice ha hn hc] 54)).heap.size = w.heap.size + 1 := by simp
  rw [zs] at X2
  clear zs
  generalize ((w.alloc (.cells #[.int .i64 lo, .int .i64 pa, .int .i64 no, .slice qa qn qc, .slice na nn nc, .slice ta tn tc, .slice la ln lc, .slice ha hn hc] 54)).alloc (.cells #[.int .i64 0, .int .i64 0, .int .i64 0, .slice none 0 0, .slice none 0 0, .slice none 0 0, .slice none 0 0, .slice none 0 0] 54)) = W at *
  have c := X1.out.cellAt 3 (.slice qa qn qc) rfl
  have b := (Below.refl W.heap.size W).alloc (Nat.le_refl _) (.cells #[] 25)
  have d := keepc b c
  have O0 := hid (OwnE.lit 25 7 Q7.cs W)
  have HSRC := hid ((SQ.out).below (B.out.trans (b.mono B.out.size)))
  have sW : Hid (w.heap.size + 2 ≤ W.heap.size) := by unfold Hid; have := X2.out.lt; omega
  have XB := hid b
  clear c b
  go_wp2_with (at_builtin; refine cat_ownE 49 25 _ 56 Q7.cs_len Q7.one Try.underlying49 infoQue rfl (by decide) (W.alloc (.cells #[] 25)) rfl (.tmp 6) (.tmp 8) rfl W.heap.size 0 (.slice (some ⟨W.heap.size, 0, none⟩) 0 0) [] rfl O0.out (by simp) qa qn qc qs rfl HSRC.out (by omega) (by omega) ?_)
  intro vv W' h bb gg
  have hB := XB.out.trans (bb.mono (Nat.le_refl _))
  have RQ : Hid (OwnE 25 7 Q7.cs (w.heap.size + 2) W' vv qn qs) := by unfold Hid; have := h.weaken (b' := w.heap.size + 2) sW.out; simpa using this
  replace X1 := hid (X1.out.below hB)
  replace X2 := hid (X2.out.below hB)
  replace B := hid (B.out.trans (hB.mono B.out.size))
  clear h bb gg hB d O0 HSRC sW XB
  obtain ⟨vRQa, vRQc, rfl⟩ := RQ.out.form
  have y := X1.out.cellAt 3 (.slice qa qn qc) rfl
  have ff : W'.frozen? ⟨w.heap.size, 3, none⟩ = false := X1.out.froz
  go_upto_region 2 with fail
  replace X1 : Hid (Blk (W'.setCell ⟨w.heap.size, 3, none⟩ (.slice vRQa qn vRQc)) w.heap.size 54 #[.int .i64 lo, .int .i64 pa, .int .i64 no, .slice vRQa qn vRQc, .slice na nn nc, .slice ta tn tc, .slice la ln lc, .slice ha hn hc]) := X1.out.put (i := 3) (.slice vRQa qn vRQc)
  replace X2 := hid (X2.out.cellO ⟨w.heap.size, 3, none⟩ (.slice vRQa qn vRQc) (by show w.heap.size + 1 ≠ w.heap.size; omega))
  replace RQ := hid (RQ.out.cellO ⟨w.heap.size, 3, none⟩ (.slice vRQa qn vRQc) (by show w.heap.size < w.heap.size + 2; omega))
  replace B := hid (B.out.setCell (p := ⟨w.heap.size, 3, none⟩) (Nat.le_refl _) (.slice vRQa qn vRQc))
  clear y ff
  generalize W'.setCell ⟨w.heap.size, 3, none⟩ (.slice vRQa qn vRQc) = W at *
  have c := X1.out.cellAt 4 (.slice na nn nc) rfl
  have b := (Below.refl W.heap.size W).alloc (Nat.le_refl _) (.cells #[] 27)
  have d := keepc b c
  have O0 := hid (OwnE.lit 27 5 N5.cs W)
  have HSRC := hid ((SN.out).below (B.out.trans (b.mono B.out.size)))
  have sW : Hid (w.heap.size + 2 ≤ W.heap.size) := by unfold Hid; have := X2.out.lt; omega
  have XB := hid b
  clear c b
  go_wp2_with (at_builtin; refine cat_ownE 50 27 _ 40 N5.cs_len N5.one Try.underlying50 infoNod rfl (by decide) (W.alloc (.cells #[] 27)) rfl (.tmp 11) (.tmp 13) rfl W.heap.size 0 (.slice (some ⟨W.heap.size, 0, none⟩) 0 0) [] rfl O0.out (by simp) na nn nc ns rfl HSRC.out (by omega) (by omega) ?_)
  intro vv W' h bb gg
  have hB := XB.out.trans (bb.mono (Nat.le_refl _))
  have RN : Hid (OwnE 27 5 N5.cs (w.heap.size + 2) W' vv nn ns) := by unfold Hid; have := h.weaken (b' := w.heap.size + 2) sW.out; simpa using this
  replace X1 := hid (X1.out.below hB)
  replace X2 := hid (X2.out.below hB)
  replace RQ := hid (RQ.out.below hB)
  replace B := hid (B.out.trans (hB.mono B.out.size))
  clear h bb gg hB d O0 HSRC sW XB
  obtain ⟨vRNa, vRNc, rfl⟩ := RN.out.form
  have y := X1.out.cellAt 4 (.slice na nn nc) rfl
  have ff : W'.frozen? ⟨w.heap.size, 4, none⟩ = false := X1.out.froz
  go_upto_region 3 with fail
  replace X1 : Hid (Blk (W'.setCell ⟨w.heap.size, 4, none⟩ (.slice vRNa nn vRNc)) w.heap.size 54 #[.int .i64 lo, .int .i64 pa, .int .i64 no, .slice vRQa qn vRQc, .slice vRNa nn vRNc, .slice ta tn tc, .slice la ln lc, .slice ha hn hc]) := X1.out.put (i := 4) (.slice vRNa nn vRNc)
  replace X2 := hid (X2.out.cellO ⟨w.heap.size, 4, none⟩ (.slice vRNa nn vRNc) (by show w.heap.size + 1 ≠ w.heap.size; omega))
  replace RQ := hid (RQ.out.cellO ⟨w.heap.size, 4, none⟩ (.slice vRNa nn vRNc) (by show w.heap.size < w.heap.size + 2; omega))
  replace RN := hid (RN.out.cellO ⟨w.heap.size, 4, none⟩ (.slice vRNa nn vRNc) (by show w.heap.size < w.heap.size + 2; omega))
  replace B := hid (B.out.setCell (p := ⟨w.heap.size, 4, none⟩) (Nat.le_refl _) (.slice vRNa nn vRNc))
  clear y ff
  generalize W'.setCell ⟨w.heap.size, 4, none⟩ (.slice vRNa nn vRNc) = W at *
  clear SQ SN
  have y5 := X1.out.cellAt 5 (.slice ta tn tc) rfl
  go_wp2_with fail
  clear y5
  go_loopw [3, 19] (fun v i wr => ∃ k : Nat, k ≤ tn ∧ i = .int .i64 (k : Int) ∧ ∃ ts', Hid (OwnE 30 7 T7.cs (w.heap.size + 2) wr v k ts') ∧ Hid (∀ j (g1 : j < ts.length) (g2 : j < ts'.length), TaSame ts[j] ts'[j]) ∧ Hid (∀ x ∈ ts', OwnN (w.heap.size + 2) wr (.slice x.sa x.sl x.sc) x.sl x.tk) ∧ Hid (Below w.heap.size w wr) ∧ Hid (Blk wr w.heap.size 54 #[.int .i64 lo, .int .i64 pa, .int .i64 no, .slice vRQa qn vRQc, .slice vRNa nn vRNc, .slice ta tn tc, .slice la ln lc, .slice ha hn hc]) ∧ Hid (Blk wr (w.heap.size + 1) 54 #[.int .i64 0, .int .i64 0, .int .i64 0, .slice none 0 0, .slice none 0 0, .slice none 0 0, .slice none 0 0, .slice none 0 0]) ∧ Hid (OwnE 25 7 Q7.cs (w.heap.size + 2) wr (.slice vRQa qn vRQc) qn qs) ∧ Hid (OwnE 27 5 N5.cs (w.heap.size + 2) wr (.slice vRNa nn vRNc) nn ns)) (fun _ i _ => tn - (intOf i).toNat)
  case atStart => exact ⟨0, by omega, rfl, [], OwnE.nil _ _ _ _ _, (fun j _ g => absurd g (by simp)), (fun x hx => by cases hx), B, X1, X2, RQ, RN⟩
  case round =>
    clear B X1 X2 RQ RN
    obtain ⟨k, hk', rfl, ts', HO, HL, HH, B, X1, X2, RQ, RN⟩ := hrel
    have hlk : Hid (ts'.length = k) := HO.out.len
    by_cases hlt : k < tn
    · have hlt' : k < ts.length := by rw [HTN.out]; exact hlt
      obtain ⟨b, off, rfl, hbl, RI⟩ := RT.out (by omega)
      have RG := rangeAt_below (RI k ts[k] (List.getElem?_eq_getElem hlt')) B.out
      have hmem := List.getElem_mem hlt'
      have HC := hid ((STA.out _ hmem).below B.out)
      have HCS := Z4.out _ hmem
      have SNO := hid (fun y => tsame_snoc (y := y) HL.out hlk.out hlt')
      have ka : (0 : Int) ≤ (k : Int) := by omega
      have kb : (k : Int) < (tn : Int) := by omega
      have hsl := HC.out.2.1
      have TW := hid (fun W (H : HoldsN W ts[k].sa ts[k].sl ts[k].sc ts[k].tk) => ttask_el ts[k] W H (by omega))
      have HO1 := hid (all_oneCell_toArray (T7.one ts[k]))
      have HK : Hid (ts[k].cs.length = 7) := rfl
      clear RI hmem
      generalize ts[k].cs = X at *
      have hsz : (Try.prog.info? 30).map (·.size) = some X.length := by rw [HK.out]; exact sizeTask
      go_upto_region 7 with (first | refine wpList_load_mid rfl 30 (.tmp 21) rfl _ _ rfl X _ RG Try.underlying30 rfl hsz ?_ | refine wpList_store_row rfl 30 (.tmp 5) (.tmp 22) rfl wr.heap.size X.toArray rfl rfl 30 _ (heap_alloc_new wr _) (by simpa using hsz) (by show 7 = X.toArray.size; rw [List.size_toArray, HK.out]) HO1.out ?_)
      rw [alloc_row]
      have b2 := (Below.refl wr.heap.size wr).alloc (Nat.le_refl _) (.cells X.toArray 30)
      have XB := hid (Blk.alloc wr X.toArray (30))
      have C2 := hid (HC.out.below b2)
      replace HO := hid (HO.out.below b2)
      replace HH := hid (fun x hx => (HH.out x hx).below b2)
      replace X1 := hid (X1.out.below b2)
      replace X2 := hid (X2.out.below b2)
      replace RQ := hid (RQ.out.below b2)
      replace RN := hid (RN.out.below b2)
      replace B := hid (B.out.trans (b2.mono B.out.size))
      clear RG b2 HC
      generalize wr.alloc (.cells X.toArray 30) = w2 at *
      have CI := hid (TW.out w2 C2.out)
      have LD := XB.out.loadAt Try.underlying30 rfl (by simpa using hsz)
      go_wp2_with (refine wpList_load_at 30 rfl (.tmp 5) rfl _ _ rfl _ LD ?_)
      with_reducible refine CI.out.mono ?_
      rintro e w3 ⟨y, rfl, oy, sy, b3⟩
      have s2 : Hid (w.heap.size + 2 ≤ w2.heap.size) := by unfold Hid; have := X2.out.lt; omega
      have OY := hid (oy.weaken s2.out)
      replace HO := hid (HO.out.below b3)
      replace HH := hid (fun x hx => (HH.out x hx).below b3)
      replace X1 := hid (X1.out.below b3)
      replace X2 := hid (X2.out.below b3)
      replace RQ := hid (RQ.out.below b3)
      replace RN := hid (RN.out.below b3)
      replace B := hid (B.out.trans (b3.mono B.out.size))
      have s3 : Hid (w.heap.size + 2 ≤ w3.heap.size) := Nat.le_trans s2.out b3.size
      have HS7 := hid (SNO.out y sy)
      clear CI oy sy b3 LD XB C2 TW s2
      have NL : Hid ((k + 1) * 72 ≤ 140737488355328) := by unfold Hid; omega
      go_wp2_with (at_builtin; refine push_ownE 51 30 _ 72 T7.cs_len T7.one Try.underlying51 infoTas rfl (by decide) w3 y rfl (.tmp 23) (.tmp 26) rfl (w.heap.size + 2) k u3 ts' #[.int .i64 y.t1, .int .i64 y.t2, .int .i64 y.c, .int .i64 y.m, .int .i64 y.wk, .slice y.sa y.sl y.sc, .int .i64 y.st] rfl rfl HO.out s3.out (by simp [Act.eval]) (by omega) NL.out ?_)
      intro v7 w7 h7 b7 g7
      have O7 := hid h7
      have H7 : Hid (∀ x ∈ ts' ++ [y], OwnN (w.heap.size + 2) w7 (.slice x.sa x.sl x.sc) x.sl x.tk) := fun x hx => by
        rcases List.mem_append.1 hx with hx | hx
        · exact (HH.out x hx).grownN g7 (fun g e => Ne.symm (fun e2 => own_ne (HH.out x hx) HO.out (by decide) g e e2.symm))
        · simp only [List.mem_singleton] at hx
          subst hx
          exact OY.out.grownN g7 (fun g e => Ne.symm (fun e2 => own_ne OY.out HO.out (by decide) g e e2.symm))
      replace RQ := hid (RQ.out.grownN g7 (fun g e => Ne.symm (fun e2 => own_ne RQ.out HO.out (by decide) g e e2.symm)))
      replace RN := hid (RN.out.grownN g7 (fun g e => Ne.symm (fun e2 => own_ne RN.out HO.out (by decide) g e e2.symm)))
      have hro : ∀ g, u3.ownBlock = some g → w.heap.size + 2 ≤ g := fun g e => (HO.out.lt g e).1
      replace X1 := hid (show Blk w7 w.heap.size _ _ from (g7.block _ X1.out.lt (fun e => by have := hro _ e.symm; omega)).trans X1.out)
      replace X2 := hid (show Blk w7 (w.heap.size + 1) _ _ from (g7.block _ X2.out.lt (fun e => by have := hro _ e.symm; omega)).trans X2.out)
      replace B := hid (B.out.trans (b7.mono (by omega)))
      clear h7 b7 g7 HO HH OY s3
      go_wp2_with fail
      refine ⟨⟨k + 1, by omega, by go_num, _, O7, HS7, H7, B, X1, X2, RQ, RN⟩, ?_⟩
      simp [intOf]; omega
    · obtain rfl : tn = k := by omega
      clear RT STA
      have y := X1.out.cellAt 5 (.slice ta tn tc) rfl
      obtain ⟨vTa, vTc, rfl⟩ := HO.out.form
      have ff : wr.frozen? ⟨w.heap.size, 5, none⟩ = false := X1.out.froz
      go_upto_region 10 with fail
      replace X1 : Hid (Blk (wr.setCell ⟨w.heap.size, 5, none⟩ (.slice vTa tn vTc)) w.heap.size 54 #[.int .i64 lo, .int .i64 pa, .int .i64 no, .slice vRQa qn vRQc, .slice vRNa nn vRNc, .slice vTa tn vTc, .slice la ln lc, .slice ha hn hc]) := X1.out.put (i := 5) (.slice vTa tn vTc)
      replace X2 := hid (X2.out.cellO ⟨w.heap.size, 5, none⟩ (.slice vTa tn vTc) (by show w.heap.size + 1 ≠ w.heap.size; omega))
      replace RQ := hid (RQ.out.cellO ⟨w.heap.size, 5, none⟩ (.slice vTa tn vTc) (by show w.heap.size < w.heap.size + 2; omega))
      replace RN := hid (RN.out.cellO ⟨w.heap.size, 5, none⟩ (.slice vTa tn vTc) (by show w.heap.size < w.heap.size + 2; omega))
      replace HO := hid (HO.out.cellO ⟨w.heap.size, 5, none⟩ (.slice vTa tn vTc) (by show w.heap.size < w.heap.size + 2; omega))
      replace HH := hid (fun x hx => (HH.out x hx).cellO ⟨w.heap.size, 5, none⟩ (.slice vTa tn vTc) (by show w.heap.size < w.heap.size + 2; omega))
      replace B := hid (B.out.setCell (p := ⟨w.heap.size, 5, none⟩) (Nat.le_refl _) (.slice vTa tn vTc))
      clear y ff
      generalize wr.setCell ⟨w.heap.size, 5, none⟩ (.slice vTa tn vTc) = W at *
      have y := X1.out.cellAt 6 (.slice la ln lc) rfl
      have CL := hid (tleases_any la ln lc ls W (SL.out.below B.out) (fun x hx => (SLA.out x hx).below B.out) z5 Z6.out)
      go_wp2_with fail
      with_reducible refine CL.out.mono ?_
      clear y
      rintro e W' ⟨vl, ls', rfl, ol, sl, al, hB⟩
      have sW : Hid (w.heap.size + 2 ≤ W.heap.size) := by unfold Hid; have := X2.out.lt; omega
      have RL := hid (ol.weaken sW.out)
      have LS := hid sl
      have AL := hid (fun x hx => (al x hx).weaken (b' := w.heap.size + 2) sW.out)
      replace X1 := hid (X1.out.below hB)
      replace X2 := hid (X2.out.below hB)
      replace RQ := hid (RQ.out.below hB)
      replace RN := hid (RN.out.below hB)
      replace HO := hid (HO.out.below hB)
      replace HH := hid (fun x hx => (HH.out x hx).below hB)
      replace B := hid (B.out.trans (hB.mono B.out.size))
      clear CL ol sl al hB sW SL SLA
      obtain ⟨vLa, vLc, rfl⟩ := RL.out.form
      have y := X1.out.cellAt 6 (.slice la ln lc) rfl
      have ff : W'.frozen? ⟨w.heap.size, 6, none⟩ = false := X1.out.froz
      go_upto_region 11 with fail
      replace X1 : Hid (Blk (W'.setCell ⟨w.heap.size, 6, none⟩ (.slice vLa ln vLc)) w.heap.size 54 #[.int .i64 lo, .int .i64 pa, .int .i64 no, .slice vRQa qn vRQc, .slice vRNa nn vRNc, .slice vTa tn vTc, .slice vLa ln vLc, .slice ha hn hc]) := X1.out.put (i := 6) (.slice vLa ln vLc)
      replace X2 := hid (X2.out.cellO ⟨w.heap.size, 6, none⟩ (.slice vLa ln vLc) (by show w.heap.size + 1 ≠ w.heap.size; omega))
      replace RQ := hid (RQ.out.cellO ⟨w.heap.size, 6, none⟩ (.slice vLa ln vLc) (by show w.heap.size < w.heap.size + 2; omega))
      replace RN := hid (RN.out.cellO ⟨w.heap.size, 6, none⟩ (.slice vLa ln vLc) (by show w.heap.size < w.heap.size + 2; omega))
      replace HO := hid (HO.out.cellO ⟨w.heap.size, 6, none⟩ (.slice vLa ln vLc) (by show w.heap.size < w.heap.size + 2; omega))
      replace RL := hid (RL.out.cellO ⟨w.heap.size, 6, none⟩ (.slice vLa ln vLc) (by show w.heap.size < w.heap.size + 2; omega))
      replace B := hid (B.out.setCell (p := ⟨w.heap.size, 6, none⟩) (Nat.le_refl _) (.slice vLa ln vLc))
      replace HH := hid (fun x hx => (HH.out x hx).cellO ⟨w.heap.size, 6, none⟩ (.slice vLa ln vLc) (by show w.heap.size < w.heap.size + 2; omega))
      replace AL := hid (fun x hx => (AL.out x hx).cellO ⟨w.heap.size, 6, none⟩ (.slice vLa ln vLc) (by show w.heap.size < w.heap.size + 2; omega))
      clear y ff
      generalize W'.setCell ⟨w.heap.size, 6, none⟩ (.slice vLa ln vLc) = W at *
      have c := X1.out.cellAt 7 (.slice ha hn hc) rfl
      have b := (Below.refl W.heap.size W).alloc (Nat.le_refl _) (.cells #[] 94)
      have d := keepc b c
      have O0 := hid (OwnE.lit 94 2 H2.cs W)
      have HSRC := hid (SH.out.below (B.out.trans (b.mono B.out.size)))
      have sW : Hid (w.heap.size + 2 ≤ W.heap.size) := by unfold Hid; have := X2.out.lt; omega
      have XB := hid b
      clear c b SH
      go_wp2_with (at_builtin; refine cat_ownE 52 94 _ 16 H2.cs_len H2.one Try.underlying52 infoHun rfl (by decide) (W.alloc (.cells #[] 94)) rfl (.tmp 35) (.tmp 37) rfl W.heap.size 0 (.slice (some ⟨W.heap.size, 0, none⟩) 0 0) [] rfl O0.out (by simp) ha hn hc hs rfl HSRC.out (by omega) (by omega) ?_)
      intro vv W' h bb gg
      have hB := XB.out.trans (bb.mono (Nat.le_refl _))
      have RH : Hid (OwnE 94 2 H2.cs (w.heap.size + 2) W' vv hn hs) := by unfold Hid; have := h.weaken (b' := w.heap.size + 2) sW.out; simpa using this
      replace X1 := hid (X1.out.below hB)
      replace X2 := hid (X2.out.below hB)
      replace RQ := hid (RQ.out.below hB)
      replace RN := hid (RN.out.below hB)
      replace HO := hid (HO.out.below hB)
      replace RL := hid (RL.out.below hB)
      replace HH := hid (fun x hx => (HH.out x hx).below hB)
      replace AL := hid (fun x hx => (AL.out x hx).below hB)
      replace B := hid (B.out.trans (hB.mono B.out.size))
      clear h bb gg hB d O0 HSRC sW XB
      obtain ⟨vRHa, vRHc, rfl⟩ := RH.out.form
      have y := X1.out.cellAt 7 (.slice ha hn hc) rfl
      have ff : W'.frozen? ⟨w.heap.size, 7, none⟩ = false := X1.out.froz
      go_upto_region 12 with fail
      replace X1 : Hid (Blk (W'.setCell ⟨w.heap.size, 7, none⟩ (.slice vRHa hn vRHc)) w.heap.size 54 #[.int .i64 lo, .int .i64 pa, .int .i64 no, .slice vRQa qn vRQc, .slice vRNa nn vRNc, .slice vTa tn vTc, .slice vLa ln vLc, .slice vRHa hn vRHc]) := X1.out.put (i := 7) (.slice vRHa hn vRHc)
      replace X2 := hid (X2.out.cellO ⟨w.heap.size, 7, none⟩ (.slice vRHa hn vRHc) (by show w.heap.size + 1 ≠ w.heap.size; omega))
      replace RQ := hid (RQ.out.cellO ⟨w.heap.size, 7, none⟩ (.slice vRHa hn vRHc) (by show w.heap.size < w.heap.size + 2; omega))
      replace RN := hid (RN.out.cellO ⟨w.heap.size, 7, none⟩ (.slice vRHa hn vRHc) (by show w.heap.size < w.heap.size + 2; omega))
      replace HO := hid (HO.out.cellO ⟨w.heap.size, 7, none⟩ (.slice vRHa hn vRHc) (by show w.heap.size < w.heap.size + 2; omega))
      replace RL := hid (RL.out.cellO ⟨w.heap.size, 7, none⟩ (.slice vRHa hn vRHc) (by show w.heap.size < w.heap.size + 2; omega))
      replace RH := hid (RH.out.cellO ⟨w.heap.size, 7, none⟩ (.slice vRHa hn vRHc) (by show w.heap.size < w.heap.size + 2; omega))
      replace B := hid (B.out.setCell (p := ⟨w.heap.size, 7, none⟩) (Nat.le_refl _) (.slice vRHa hn vRHc))
      replace HH := hid (fun x hx => (HH.out x hx).cellO ⟨w.heap.size, 7, none⟩ (.slice vRHa hn vRHc) (by show w.heap.size < w.heap.size + 2; omega))
      replace AL := hid (fun x hx => (AL.out x hx).cellO ⟨w.heap.size, 7, none⟩ (.slice vRHa hn vRHc) (by show w.heap.size < w.heap.size + 2; omega))
      clear y ff
      generalize W'.setCell ⟨w.heap.size, 7, none⟩ (.slice vRHa hn vRHc) = W at *
      have LD := X1.out.loadAt Try.underlying54 rfl sizeSta
      have BH := X2.out
      unfold Blk at BH
      go_wp2_with (first | refine wpList_load_at 54 rfl (.tmp 1) rfl _ _ rfl _ LD ?_ | refine wpList_store_row rfl 54 (.tmp 2) (.tmp 40) rfl (w.heap.size + 1) #[.int .i64 lo, .int .i64 pa, .int .i64 no, .slice vRQa qn vRQc, .slice vRNa nn vRNc, .slice vTa tn vTc, .slice vLa ln vLc, .slice vRHa hn vRHc] rfl rfl 54 _ BH sizeSta rfl (by simp [Value.oneCell']) ?_)
      refine bodyPost_ret (results_cell rfl rfl ((X2.out.row #[.int .i64 lo, .int .i64 pa, .int .i64 no, .slice vRQa qn vRQc, .slice vRNa nn vRNc, .slice vTa tn vTc, .slice vLa ln vLc, .slice vRHa hn vRHc]).loadVar Try.underlying54 rfl sizeSta)) rfl ?_
      have q := w.heap.size + 1
      refine ⟨_, _, _, _, _, _, ts', _, _, ls', _, _, rfl, ((RQ.out.row (by omega) _).holds Q7.cs_len), ((RN.out.row (by omega) _).holds N5.cs_len), ⟨((HO.out.row (by omega) _).holds T7.cs_len), fun x hx => ((HH.out x hx).row (by omega) _).holds encN_len, HL.out⟩, ⟨((RL.out.row (by omega) _).holds Le.cs_len), fun x hx => ((AL.out x hx).row (by omega) _).holds encN_len, LS.out⟩, ((RH.out.row (by omega) _).holds H2.cs_len), setRow_below B.out (by omega)⟩
end Go.Proofs.Ytkjglpgjflkmbaa
