/-
  Contracts of furlongref10: leases, lists of leases and of queues that are alike.
  Contracts of furlongref10: a task, an entry with memory of its own.
  Contracts of furlongref10: leases with memory of their own.
  Contracts of furlongref10: are two answers alike?
  Contracts of furlongref10: two states that are alike.
-/
import Derived.Test.YthkbddnkcljjpaaMED
import Derived.Test.YthkbddnkcljjpaaMCZ
import Derived.Test.YthkbddnkcljjpaaMEA
import Derived.Test.YthkbddnkcljjpaaMCX
import Derived.Test.YthkbddnkcljjpaaMCH
namespace Go.Proofs.Ythkbddnkcljjpaa
open Go.RowKit Go.Deep Go.Maps
set_option linter.unusedVariables false
set_option linter.unusedSimpArgs false

set_option maxRecDepth 100000 in
set_option maxHeartbeats 4000000 in
theorem slease_any (la lb lc ld le lf : Int) (lh : Bool) (ta tb : Option Addr) (tn ca cb : Nat) (tk : List Int) (w : World) (h1 : HoldsN w ta tn ca tk) (h2 : HoldsN w tb tn cb tk) (hm : tn ≤ 140737488355328) :
    Calls Try.prog 84 #[.agg #[.int .i64 la, .int .i64 lb, .int .i64 lc, .slice ta tn ca, .int .i64 ld, .int .i64 le, .int .i64 lf, .bool lh], .agg #[.int .i64 la, .int .i64 lb, .int .i64 lc, .slice tb tn cb, .int .i64 ld, .int .i64 le, .int .i64 lf, .bool lh]] w fun e w' => e = .returned (.bool true) ∧ Below w.heap.size w w' := by
  go_enter Try.func84, Try.ntmps84
  go_upto_region 1 with fail
  have B0 := ((Below.refl w.heap.size w).alloc (Nat.le_refl _) (.cells #[.int .i64 la, .int .i64 lb, .int .i64 lc, .slice ta tn ca, .int .i64 ld, .int .i64 le, .int .i64 lf, .bool lh] 138)).alloc (by simp) (.cells #[.int .i64 la, .int .i64 lb, .int .i64 lc, .slice tb tn cb, .int .i64 ld, .int .i64 le, .int .i64 lf, .bool lh] 138)
  have C := hid (ints_any ta tb tn ca cb tk _ (h1.below B0) (h2.below B0) hm)
  clear h1 h2
  have tb1 : (lh == lh) = true := by simp
  go_wp2_with fail
  with_reducible refine C.out.mono ?_
  rintro e W1 ⟨rfl, b1⟩
  clear C
  go_wp2_with fail
  go_ret
  exact ⟨rfl, B0.trans (b1.mono (by simp <;> omega))⟩
/-- Two leases, two tasks are alike, wherever their numbers lie. -/
def LeSame (x y : Le) : Prop := x.ta = y.ta ∧ x.qu = y.qu ∧ x.no = y.no ∧ x.sl = y.sl ∧ x.me = y.me ∧ x.si = y.si ∧ x.un = y.un ∧ x.st = y.st ∧ x.co = y.co
def TaSame (x y : T7) : Prop := x.t1 = y.t1 ∧ x.t2 = y.t2 ∧ x.c = y.c ∧ x.m = y.m ∧ x.wk = y.wk ∧ x.sl = y.sl ∧ x.st = y.st ∧ x.tk = y.tk
theorem slease_el (x y : Le) (w : World) (h1 : HoldsN w x.sa x.sl x.sc x.co) (h2 : HoldsN w y.sa y.sl y.sc y.co) (hs : LeSame x y) (hm : x.sl ≤ 140737488355328) :
    Calls Try.prog 84 #[.agg x.cs.toArray, .agg y.cs.toArray] w fun e w' => e = .returned (.bool true) ∧ Below w.heap.size w w' := by
  obtain ⟨a, b, c, sa, sl, sc, d, e, f, g, co⟩ := x
  obtain ⟨a', b', c', sa', sl', sc', d', e', f', g', co'⟩ := y
  obtain ⟨h1', h2', h3', h4', h5', h6', h7', h8', h9'⟩ := hs
  simp only at h1' h2' h3' h4' h5' h6' h7' h8' h9'
  subst h1' h2' h3' h4' h5' h6' h7' h8' h9'
  exact slease_any a b c d e f g sa sa' sl sc sc' co w h1 h2 hm
theorem stask_el (x y : T7) (w : World) (h1 : HoldsN w x.sa x.sl x.sc x.tk) (h2 : HoldsN w y.sa y.sl y.sc y.tk) (hs : TaSame x y) (hm : x.sl ≤ 140737488355328) :
    Calls Try.prog 38 #[.agg x.cs.toArray, .agg y.cs.toArray] w fun e w' => e = .returned (.bool true) ∧ Below w.heap.size w w' := by
  obtain ⟨t1, t2, c, m, wk, sa, sl, sc, st, tk⟩ := x
  obtain ⟨t1', t2', c', m', wk', sa', sl', sc', st', tk'⟩ := y
  obtain ⟨h1', h2', h3', h4', h5', h6', h7', h8'⟩ := hs
  simp only at h1' h2' h3' h4' h5' h6' h7' h8'
  subst h1' h2' h3' h4' h5' h6' h7' h8'
  exact stask_any t1 t2 c m wk sa sa' sl sc sc' tk st w h1 h2 hm
theorem rangeAt_drew {w : World} {b o : Nat} {cs : List Value} (h : w.rangeAt b o cs) : w.drew.rangeAt b o cs := h
theorem neq_q7v (a b c d e f g : Int) (w : World) : Sem.run Try.prog (binOp BinOp.neq 25 (.agg #[.int .i64 a, .int .i64 b, .int .i64 c, .int .i64 d, .int .i64 e, .int .i64 f, .int .i64 g]) (.agg #[.int .i64 a, .int .i64 b, .int .i64 c, .int .i64 d, .int .i64 e, .int .i64 f, .int .i64 g])) w = .ok (.bool false) w := by
  have hS : Try.prog.underlying 25 = some (.struct (Try.prog.fieldsOf 25)) := by kernel_rfl
  have hp : Try.prog.stoodInHeld 25 = false := by kernel_rfl
  have u3 := Try.underlying3
  have a3 := Try.isAgg3
  have z3 := Try.sizeOf3
  have u2 := Try.underlying2
  have a2 := Try.isAgg2
  have z2 := Try.sizeOf2
  have hS2 : Try.prog.underlying 23 = some (.struct (Try.prog.fieldsOf 23)) := by kernel_rfl
  have hp2 : Try.prog.stoodInHeld 23 = false := by kernel_rfl
  have a24 := Try.isAgg23
  have z24 := Try.sizeOf23
  have e24 : ∀ (d : Nat) (x y : Int) (w : World), (Op.equalIn (d + 2) 23 (.agg #[.int .i64 x, .int .i64 y]) (.agg #[.int .i64 x, .int .i64 y])).run Try.prog w = .ok true w := fun d x y w => by
    rw [run_equalIn_agg w (d + 1) 23 _ _ hS2 hp2]
    simp only [Program.fieldsOf, Try.underlying23]
    go_simp
  rw [run_neq_struct, show (10000 : Nat) = 9999 + 1 from rfl, run_equalIn_agg w 9999 25 _ _ hS hp]
  simp only [Program.fieldsOf, Try.underlying25]
  go_simp
theorem neq_n5v (a b c d e : Int) (w : World) : Sem.run Try.prog (binOp BinOp.neq 27 (.agg #[.int .i64 a, .int .i64 b, .int .i64 c, .int .i64 d, .int .i64 e]) (.agg #[.int .i64 a, .int .i64 b, .int .i64 c, .int .i64 d, .int .i64 e])) w = .ok (.bool false) w := by
  have hS : Try.prog.underlying 27 = some (.struct (Try.prog.fieldsOf 27)) := by kernel_rfl
  have hp : Try.prog.stoodInHeld 27 = false := by kernel_rfl
  have u3 := Try.underlying3
  have a3 := Try.isAgg3
  have z3 := Try.sizeOf3
  have u2 := Try.underlying2
  have a2 := Try.isAgg2
  have z2 := Try.sizeOf2
  rw [run_neq_struct, show (10000 : Nat) = 9999 + 1 from rfl, run_equalIn_agg w 9999 27 _ _ hS hp]
  simp only [Program.fieldsOf, Try.underlying27]
  go_simp
theorem neq_h2v (a b : Int) (w : World) : Sem.run Try.prog (binOp BinOp.neq 94 (.agg #[.int .i64 a, .int .i64 b]) (.agg #[.int .i64 a, .int .i64 b])) w = .ok (.bool false) w := by
  have hS : Try.prog.underlying 94 = some (.struct (Try.prog.fieldsOf 94)) := by kernel_rfl
  have hp : Try.prog.stoodInHeld 94 = false := by kernel_rfl
  have u3 := Try.underlying3
  have a3 := Try.isAgg3
  have z3 := Try.sizeOf3
  have u2 := Try.underlying2
  have a2 := Try.isAgg2
  have z2 := Try.sizeOf2
  rw [run_neq_struct, show (10000 : Nat) = 9999 + 1 from rfl, run_equalIn_agg w 9999 94 _ _ hS hp]
  simp only [Program.fieldsOf, Try.underlying94]
  go_simp
theorem neq_q7 (x : Q7) (w : World) : Sem.run Try.prog (binOp BinOp.neq 25 (.agg x.cs.toArray) (.agg x.cs.toArray)) w = .ok (.bool false) w := neq_q7v _ _ _ _ _ _ _ w
theorem neq_n5 (x : N5) (w : World) : Sem.run Try.prog (binOp BinOp.neq 27 (.agg x.cs.toArray) (.agg x.cs.toArray)) w = .ok (.bool false) w := neq_n5v _ _ _ _ _ w
theorem neq_h2 (x : H2) (w : World) : Sem.run Try.prog (binOp BinOp.neq 94 (.agg x.cs.toArray) (.agg x.cs.toArray)) w = .ok (.bool false) w := neq_h2v _ _ w

set_option maxRecDepth 100000 in
set_option maxHeartbeats 4000000 in
theorem squeues_any (a b : Option Addr) (n ca cb : Nat) (qs : List Q7) (w : World) (h1 : HoldsE 7 Q7.cs w a n ca qs) (h2 : HoldsE 7 Q7.cs w b n cb qs) :
    Calls Try.prog 48 #[.slice a n ca, .slice b n cb] w fun e w' => e = .returned (.bool true) ∧ Below w.heap.size w w' := by
  have HN1 := hid h1.1
  have HN2 := hid h2.1
  have RA1 := hid (fun hp => h1.rangeAt hp)
  have RA2 := hid (fun hp => h2.rangeAt hp)
  have hca := h1.2.1
  have hcm := h1.2.2.1
  have hcb := h2.2.1
  have hcn := h2.2.2.1
  clear h1 h2
  go_enter Try.func48, Try.ntmps48
  go_wp2_with fail
  go_loopw [13] (fun i wr => ∃ k : Nat, k ≤ n ∧ i = .int .i64 (k : Int) ∧ Hid (Below w.heap.size w wr)) (fun i _ => n - (intOf i).toNat)
  case atStart => exact ⟨0, by omega, rfl, Below.refl _ _⟩
  case round =>
    obtain ⟨k, hk, rfl, BR⟩ := hrel
    by_cases hlt : k < n
    · have hl1 : k < qs.length := by rw [HN1.out]; exact hlt
      have hl2 : k < qs.length := by rw [HN2.out]; exact hlt
      obtain ⟨b1, o1, rfl, _, RI1⟩ := RA1.out (by omega)
      obtain ⟨b2, o2, rfl, _, RI2⟩ := RA2.out (by omega)
      have G1 := hid (rangeAt_below (RI1 k qs[k] (List.getElem?_eq_getElem hl1)) BR.out)
      have G2 := hid (rangeAt_below (RI2 k qs[k] (List.getElem?_eq_getElem hl2)) BR.out)
      have ka : (0 : Int) ≤ (k : Int) := by omega
      have kb : (k : Int) < (n : Int) := by omega
      clear RI1 RI2
      have NE := neq_q7 qs[k]
      generalize qs[k] = X at *
      go_upto_region 6 with fail
      refine wp_region_held_drew (S := fun W => W.rangeAt b1 (o1 + k * 7) X.cs ∧ W.rangeAt b2 (o2 + k * 7) X.cs) (by kernel_rfl) ⟨G1.out, G2.out⟩ (fun hHeld => ?_)
      refine wpAnyH_take (i := 0) (v := .slice (some ⟨b1, o1, none⟩) n ca) rfl (by kernel_rfl) (by kernel_rfl) (by kernel_rfl) (fun _ _ _ h => h) (Or.inl ⟨by rfl, ?_⟩) (by assumption) ?_
      · (intro w hSw; (try dsimp only at hSw); go_simp)
      (try simp only [Act.put, List.getElem_toArray, List.getElem_cons_succ, List.getElem_cons_zero, List.setIfInBounds_toArray, List.set_cons_zero, List.set_cons_succ])
      refine wpAnyH_take (i := 1) (v := .int .i64 (k : Int)) rfl (by kernel_rfl) (by kernel_rfl) (by kernel_rfl) (fun _ _ _ h => h) (Or.inl ⟨by rfl, ?_⟩) (by assumption) ?_
      · (intro w hSw; (try dsimp only at hSw); go_simp)
      (try simp only [Act.put, List.getElem_toArray, List.getElem_cons_succ, List.getElem_cons_zero, List.setIfInBounds_toArray, List.set_cons_zero, List.set_cons_succ])
      refine wpAnyH_take (i := 2) (v := .pointer (some ⟨b1, o1 + k * 7, none⟩)) rfl (by kernel_rfl) (by kernel_rfl) (by kernel_rfl) (fun _ _ _ h => h) (Or.inl ⟨by rfl, ?_⟩) (by assumption) ?_
      · (intro w hSw; (try dsimp only at hSw); go_simp)
      (try simp only [Act.put, List.getElem_toArray, List.getElem_cons_succ, List.getElem_cons_zero, List.setIfInBounds_toArray, List.set_cons_zero, List.set_cons_succ])
      refine wpAnyH_take (i := 3) (v := .agg (X.cs).toArray) rfl (by kernel_rfl) (by kernel_rfl) (by kernel_rfl) (fun _ _ _ h => h) (yieldsIf_load_mid (by rfl) 25 (.tmp 18) rfl b1 (o1 + k * 7) rfl (X.cs) _ (fun W hW => hW.1) Try.underlying25 rfl sizeQue) (by assumption) ?_
      (try simp only [Act.put, List.getElem_toArray, List.getElem_cons_succ, List.getElem_cons_zero, List.setIfInBounds_toArray, List.set_cons_zero, List.set_cons_succ])
      refine wpAnyH_take (i := 4) (v := .slice (some ⟨b2, o2, none⟩) n cb) rfl (by kernel_rfl) (by kernel_rfl) (by kernel_rfl) (fun _ _ _ h => h) (Or.inl ⟨by rfl, ?_⟩) (by assumption) ?_
      · (intro w hSw; (try dsimp only at hSw); go_simp)
      (try simp only [Act.put, List.getElem_toArray, List.getElem_cons_succ, List.getElem_cons_zero, List.setIfInBounds_toArray, List.set_cons_zero, List.set_cons_succ])
      refine wpAnyH_take (i := 5) (v := .int .i64 (k : Int)) rfl (by kernel_rfl) (by kernel_rfl) (by kernel_rfl) (fun _ _ _ h => h) (Or.inl ⟨by rfl, ?_⟩) (by assumption) ?_
      · (intro w hSw; (try dsimp only at hSw); go_simp)
      (try simp only [Act.put, List.getElem_toArray, List.getElem_cons_succ, List.getElem_cons_zero, List.setIfInBounds_toArray, List.set_cons_zero, List.set_cons_succ])
      refine wpAnyH_take (i := 6) (v := .pointer (some ⟨b2, o2 + k * 7, none⟩)) rfl (by kernel_rfl) (by kernel_rfl) (by kernel_rfl) (fun _ _ _ h => h) (Or.inl ⟨by rfl, ?_⟩) (by assumption) ?_
      · (intro w hSw; (try dsimp only at hSw); go_simp)
      (try simp only [Act.put, List.getElem_toArray, List.getElem_cons_succ, List.getElem_cons_zero, List.setIfInBounds_toArray, List.set_cons_zero, List.set_cons_succ])
      refine wpAnyH_take (i := 7) (v := .agg (X.cs).toArray) rfl (by kernel_rfl) (by kernel_rfl) (by kernel_rfl) (fun _ _ _ h => h) (yieldsIf_load_mid (by rfl) 25 (.tmp 22) rfl b2 (o2 + k * 7) rfl (X.cs) _ (fun W hW => hW.2) Try.underlying25 rfl sizeQue) (by assumption) ?_
      (try simp only [Act.put, List.getElem_toArray, List.getElem_cons_succ, List.getElem_cons_zero, List.setIfInBounds_toArray, List.set_cons_zero, List.set_cons_succ])
      refine wpAnyH_take (i := 8) (v := .bool false) rfl (by kernel_rfl) (by kernel_rfl) (by kernel_rfl) (fun _ _ _ h => h) (Or.inl ⟨by rfl, ?_⟩) (by assumption) ?_
      · (intro w hSw; (try dsimp only at hSw); go_simp)
      (try simp only [Act.put, List.getElem_toArray, List.getElem_cons_succ, List.getElem_cons_zero, List.setIfInBounds_toArray, List.set_cons_zero, List.set_cons_succ])
      refine wpAnyH_done (by kernel_rfl) ?_ _
      clear hHeld
      have BD := hid (BR.out.drew)
      clear NE G1 G2
      go_wp2_with fail
      refine ⟨⟨k + 1, by omega, by go_num, BD⟩, ?_⟩
      simp [intOf]; omega
    · obtain rfl : n = k := by omega
      go_wp2_with fail
      go_ret
      exact ⟨rfl, BR.out⟩

set_option maxRecDepth 100000 in
set_option maxHeartbeats 4000000 in
theorem sleases_any (a b : Option Addr) (n ca cb : Nat) (ls ls' : List Le) (w : World) (h1 : HoldsE 8 Le.cs w a n ca ls) (h2 : HoldsE 8 Le.cs w b n cb ls') (ha1 : ∀ x ∈ ls, HoldsN w x.sa x.sl x.sc x.co) (ha2 : ∀ x ∈ ls', HoldsN w x.sa x.sl x.sc x.co) (hs : ∀ k (g1 : k < ls.length) (g2 : k < ls'.length), LeSame ls[k] ls'[k]) (hm : ∀ x ∈ ls, x.sl ≤ 140737488355328) :
    Calls Try.prog 49 #[.slice a n ca, .slice b n cb] w fun e w' => e = .returned (.bool true) ∧ Below w.heap.size w w' := by
  have HA1 := hid ha1
  have HA2 := hid ha2
  have HS := hid hs
  have HM := hid hm
  have HN1 := hid h1.1
  have HN2 := hid h2.1
  have RA1 := hid (fun hp => h1.rangeAt hp)
  have RA2 := hid (fun hp => h2.rangeAt hp)
  have hca := h1.2.1
  have hcm := h1.2.2.1
  have hcb := h2.2.1
  have hcn := h2.2.2.1
  clear h1 h2 ha1 ha2 hs hm
  go_enter Try.func49, Try.ntmps49
  go_wp2_with fail
  go_loopw [13] (fun i wr => ∃ k : Nat, k ≤ n ∧ i = .int .i64 (k : Int) ∧ Hid (Below w.heap.size w wr)) (fun i _ => n - (intOf i).toNat)
  case atStart => exact ⟨0, by omega, rfl, Below.refl _ _⟩
  case round =>
    obtain ⟨k, hk, rfl, BR⟩ := hrel
    by_cases hlt : k < n
    · have hl1 : k < ls.length := by rw [HN1.out]; exact hlt
      have hl2 : k < ls'.length := by rw [HN2.out]; exact hlt
      obtain ⟨b1, o1, rfl, _, RI1⟩ := RA1.out (by omega)
      obtain ⟨b2, o2, rfl, _, RI2⟩ := RA2.out (by omega)
      have G1 := hid (rangeAt_below (RI1 k ls[k] (List.getElem?_eq_getElem hl1)) BR.out)
      have G2 := hid (rangeAt_below (RI2 k ls'[k] (List.getElem?_eq_getElem hl2)) BR.out)
      have ka : (0 : Int) ≤ (k : Int) := by omega
      have kb : (k : Int) < (n : Int) := by omega
      clear RI1 RI2
      have CS := hid (fun W (H : Below w.heap.size w W) => slease_el ls[k] ls'[k] W ((HA1.out _ (List.getElem_mem hl1)).below H) ((HA2.out _ (List.getElem_mem hl2)).below H) (HS.out k hl1 hl2) (HM.out _ (List.getElem_mem hl1)))
      have HK1 : Hid (ls[k].cs.length = 8) := rfl
      have HK2 : Hid (ls'[k].cs.length = 8) := rfl
      generalize ls[k].cs = X at *
      generalize ls'[k].cs = Y at *
      have BD := hid (BR.out.drew)
      go_upto_region 6 with fail
      refine wp_region_held_drew (S := fun W => W.rangeAt b1 (o1 + k * 8) X ∧ W.rangeAt b2 (o2 + k * 8) Y) (by kernel_rfl) ⟨G1.out, G2.out⟩ (fun hHeld => ?_)
      refine wpAnyH_take (i := 0) (v := .slice (some ⟨b1, o1, none⟩) n ca) rfl (by kernel_rfl) (by kernel_rfl) (by kernel_rfl) (fun _ _ _ h => h) (Or.inl ⟨by rfl, ?_⟩) (by assumption) ?_
      · (intro w hSw; (try dsimp only at hSw); go_simp)
      (try simp only [Act.put, List.getElem_toArray, List.getElem_cons_succ, List.getElem_cons_zero, List.setIfInBounds_toArray, List.set_cons_zero, List.set_cons_succ])
      refine wpAnyH_take (i := 1) (v := .int .i64 (k : Int)) rfl (by kernel_rfl) (by kernel_rfl) (by kernel_rfl) (fun _ _ _ h => h) (Or.inl ⟨by rfl, ?_⟩) (by assumption) ?_
      · (intro w hSw; (try dsimp only at hSw); go_simp)
      (try simp only [Act.put, List.getElem_toArray, List.getElem_cons_succ, List.getElem_cons_zero, List.setIfInBounds_toArray, List.set_cons_zero, List.set_cons_succ])
      refine wpAnyH_take (i := 2) (v := .pointer (some ⟨b1, o1 + k * 8, none⟩)) rfl (by kernel_rfl) (by kernel_rfl) (by kernel_rfl) (fun _ _ _ h => h) (Or.inl ⟨by rfl, ?_⟩) (by assumption) ?_
      · (intro w hSw; (try dsimp only at hSw); go_simp)
      (try simp only [Act.put, List.getElem_toArray, List.getElem_cons_succ, List.getElem_cons_zero, List.setIfInBounds_toArray, List.set_cons_zero, List.set_cons_succ])
      refine wpAnyH_take (i := 3) (v := .agg (X).toArray) rfl (by kernel_rfl) (by kernel_rfl) (by kernel_rfl) (fun _ _ _ h => h) (yieldsIf_load_mid (by rfl) 138 (.tmp 18) rfl b1 (o1 + k * 8) rfl (X) _ (fun W hW => hW.1) Try.underlying138 rfl (by rw [HK1.out]; exact sizeLease)) (by assumption) ?_
      (try simp only [Act.put, List.getElem_toArray, List.getElem_cons_succ, List.getElem_cons_zero, List.setIfInBounds_toArray, List.set_cons_zero, List.set_cons_succ])
      refine wpAnyH_take (i := 4) (v := .slice (some ⟨b2, o2, none⟩) n cb) rfl (by kernel_rfl) (by kernel_rfl) (by kernel_rfl) (fun _ _ _ h => h) (Or.inl ⟨by rfl, ?_⟩) (by assumption) ?_
      · (intro w hSw; (try dsimp only at hSw); go_simp)
      (try simp only [Act.put, List.getElem_toArray, List.getElem_cons_succ, List.getElem_cons_zero, List.setIfInBounds_toArray, List.set_cons_zero, List.set_cons_succ])
      refine wpAnyH_take (i := 5) (v := .int .i64 (k : Int)) rfl (by kernel_rfl) (by kernel_rfl) (by kernel_rfl) (fun _ _ _ h => h) (Or.inl ⟨by rfl, ?_⟩) (by assumption) ?_
      · (intro w hSw; (try dsimp only at hSw); go_simp)
      (try simp only [Act.put, List.getElem_toArray, List.getElem_cons_succ, List.getElem_cons_zero, List.setIfInBounds_toArray, List.set_cons_zero, List.set_cons_succ])
      refine wpAnyH_take (i := 6) (v := .pointer (some ⟨b2, o2 + k * 8, none⟩)) rfl (by kernel_rfl) (by kernel_rfl) (by kernel_rfl) (fun _ _ _ h => h) (Or.inl ⟨by rfl, ?_⟩) (by assumption) ?_
      · (intro w hSw; (try dsimp only at hSw); go_simp)
      (try simp only [Act.put, List.getElem_toArray, List.getElem_cons_succ, List.getElem_cons_zero, List.setIfInBounds_toArray, List.set_cons_zero, List.set_cons_succ])
      refine wpAnyH_take (i := 7) (v := .agg (Y).toArray) rfl (by kernel_rfl) (by kernel_rfl) (by kernel_rfl) (fun _ _ _ h => h) (yieldsIf_load_mid (by rfl) 138 (.tmp 22) rfl b2 (o2 + k * 8) rfl (Y) _ (fun W hW => hW.2) Try.underlying138 rfl (by rw [HK2.out]; exact sizeLease)) (by assumption) ?_
      (try simp only [Act.put, List.getElem_toArray, List.getElem_cons_succ, List.getElem_cons_zero, List.setIfInBounds_toArray, List.set_cons_zero, List.set_cons_succ])
      refine wpAnyH_ready (rs := [8]) (by kernel_rfl) (by simp) ?_
      refine AllReadyH.cons rfl (fun K hK => ?_) AllReadyH.nil
      go_simp
      with_reducible refine (CS.out _ BD.out).mono ?_
      rintro e W2 ⟨rfl, bx⟩
      have BE := hid (BD.out.trans (bx.mono BD.out.size))
      refine hK.out _ _ ⟨rangeAt_below (rangeAt_drew G1.out) bx, rangeAt_below (rangeAt_drew G2.out) bx⟩ (fun hHeld => ?_)
      clear hK K bx CS
      (try simp only [Act.put, List.getElem_toArray, List.getElem_cons_succ, List.getElem_cons_zero, List.setIfInBounds_toArray, List.set_cons_zero, List.set_cons_succ])
      refine wpAnyH_take (i := 9) (v := .bool false) rfl (by kernel_rfl) (by kernel_rfl) (by kernel_rfl) (fun _ _ _ h => h) (Or.inl ⟨by rfl, ?_⟩) (by assumption) ?_
      · (intro w hSw; (try dsimp only at hSw); go_simp)
      (try simp only [Act.put, List.getElem_toArray, List.getElem_cons_succ, List.getElem_cons_zero, List.setIfInBounds_toArray, List.set_cons_zero, List.set_cons_succ])
      refine wpAnyH_done (by kernel_rfl) ?_ _
      clear hHeld G1 G2 BD
      go_wp2_with fail
      refine ⟨⟨k + 1, by omega, by go_num, BE⟩, ?_⟩
      simp [intOf]; omega
    · obtain rfl : n = k := by omega
      go_wp2_with fail
      go_ret
      exact ⟨rfl, BR.out⟩
end Go.Proofs.Ythkbddnkcljjpaa

namespace Go.Proofs.Ythkbddnkcljjpaa
open Go.RowKit Go.Deep Go.Maps
set_option linter.unusedVariables false
set_option linter.unusedSimpArgs false

theorem Blk.put {W : World} {Q t i : Nat} {cs : Array Value} (h : Blk W Q t cs) (v : Value) : Blk (W.setCell ⟨Q, i, none⟩ v) Q t (cs.setIfInBounds i v) := heap_setCell_same W Q i cs t v h
theorem Blk.boxD {W : World} {Q t : Nat} {cs : Array Value} (h : Blk W Q t cs) : Box W Q cs := fun i x e => by
  have h' : W.heap[Q]? = some (.cells cs t (0, 0)) := h
  simp [World.cell?, h', e]
theorem Blk.cellAt {W : World} {Q t : Nat} {cs : Array Value} (h : Blk W Q t cs) (i : Nat) (v : Value) (e : cs[i]? = some v) : W.cell? ⟨Q, i, none⟩ = some v := by
  have h' : W.heap[Q]? = some (.cells cs t (0, 0)) := h
  simp [World.cell?, h', e]
theorem Blk.froz {W : World} {Q t i : Nat} {cs : Array Value} (h : Blk W Q t cs) : W.frozen? ⟨Q, i, none⟩ = false := frozen_of_row W Q i cs t h
theorem Blk.there {W : World} {Q t : Nat} {cs : Array Value} (h : Blk W Q t cs) (o n : Nat) (hn : o + n ≤ cs.size) : W.there Q o n := fun j hj => by
  refine ⟨?_, h.froz⟩
  rw [h.cellAt (o + j) (cs[o + j]'(by omega)) (Array.getElem?_eq_getElem _)]
  rfl
/-- Values put into an array's places from o on. -/
def putL (cs : Array Value) : Nat → List Value → Array Value
  | _, [] => cs
  | o, v :: r => putL (cs.setIfInBounds o v) (o + 1) r
theorem Blk.cells {Q t : Nat} : ∀ (vs : List Value) (o : Nat) {W : World} {cs : Array Value} (h : Blk W Q t cs), Blk (W.setCells Q o vs) Q t (putL cs o vs)
  | [], _, _, _, h => h
  | v :: r, o, W, cs, h => by
    rw [World.setCells]
    exact Blk.cells r (o + 1) (h.put v)
theorem Blk.cellsO {Q t : Nat} : ∀ (vs : List Value) (o q : Nat) {W : World} {cs : Array Value} (h : Blk W Q t cs) (hq : Q ≠ q), Blk (W.setCells q o vs) Q t cs
  | [], _, _, _, _, h, _ => h
  | v :: r, o, q, W, cs, h, hq => by
    rw [World.setCells]
    exact Blk.cellsO r (o + 1) q (h.cellO ⟨q, o, none⟩ v hq) hq
theorem setCells_below {n : Nat} {w : World} : ∀ (vs : List Value) (o q : Nat) {W : World}, Below n w W → n ≤ q → Below n w (W.setCells q o vs)
  | [], _, _, _, h, _ => h
  | v :: r, o, q, W, h, hq => by
    rw [World.setCells]
    exact setCells_below r (o + 1) q (h.setCell (p := ⟨q, o, none⟩) hq v) hq
theorem OwnE.cellsO {α : Type} {e : TypeId} {k : Nat} {enc : α → List Value} {base n : Nat} {l : List α} {v : Value} : ∀ (vs : List Value) (o q : Nat) {w : World}, OwnE e k enc base w v n l → q < base → OwnE e k enc base (w.setCells q o vs) v n l
  | [], _, _, _, h, _ => h
  | u :: r, o, q, w, h, hq => by
    rw [World.setCells]
    exact OwnE.cellsO r (o + 1) q (h.cellO ⟨q, o, none⟩ u hq) hq
theorem encN_one : ∀ x, ∀ u ∈ encN x, u.oneCell' = true := by intro x u hu; simp [encN] at hu; subst hu; rfl

set_option maxRecDepth 100000 in
set_option maxHeartbeats 8000000 in
theorem ttask_any (t1 t2 c m wk st : Int) (ta : Option Addr) (tn tc : Nat) (tk : List Int) (w : World) (h : HoldsN w ta tn tc tk) (hm : tn * 8 ≤ 140737488355328) :
    Calls Try.prog 30 #[.agg #[.int .i64 t1, .int .i64 t2, .int .i64 c, .int .i64 m, .int .i64 wk, .slice ta tn tc, .int .i64 st]] w fun e w' => ∃ v, e = .returned (.agg #[.int .i64 t1, .int .i64 t2, .int .i64 c, .int .i64 m, .int .i64 wk, v, .int .i64 st]) ∧ OwnN w.heap.size w' v tn tk ∧ Below w.heap.size w w' := by
  go_enter Try.func30, Try.ntmps30
  go_upto_region 1 with fail
  have B0 := hid (((Below.refl w.heap.size w).alloc (Nat.le_refl _) (.cells #[.int .i64 t1, .int .i64 t2, .int .i64 c, .int .i64 m, .int .i64 wk, .slice ta tn tc, .int .i64 st] 30)).alloc (by simp) (.cells #[.int .i64 0, .int .i64 0, .int .i64 0, .int .i64 0, .int .i64 0, .slice none 0 0, .int .i64 0] 30))
  have X1 := hid ((Blk.alloc w #[.int .i64 t1, .int .i64 t2, .int .i64 c, .int .i64 m, .int .i64 wk, .slice ta tn tc, .int .i64 st] (30)).below ((Below.refl _ _).alloc (Nat.le_refl _) (.cells #[.int .i64 0, .int .i64 0, .int .i64 0, .int .i64 0, .int .i64 0, .slice none 0 0, .int .i64 0] 30)))
  have X2 := hid (Blk.alloc (w.alloc (.cells #[.int .i64 t1, .int .i64 t2, .int .i64 c, .int .i64 m, .int .i64 wk, .slice ta tn tc, .int .i64 st] 30)) #[.int .i64 0, .int .i64 0, .int .i64 0, .int .i64 0, .int .i64 0, .slice none 0 0, .int .i64 0] (30))
  have zs : (w.alloc (.cells #[.int .i64 t1, .int .i64 t2, .int .i64 c, .int .i64 m, .int .i64 wk, .slice ta tn tc, .int .i64 st] 30)).heap.size = w.heap.size + 1 := by simp
  have zt : ((w.alloc (.cells #[.int .i64 t1, .int .i64 t2, .int .i64 c, .int .i64 m, .int .i64 wk, .slice ta tn tc, .int .i64 st] 30)).alloc (.cells #[.int .i64 0, .int .i64 0, .int .i64 0, .int .i64 0, .int .i64 0, .slice none 0 0, .int .i64 0] 30)).heap.size = w.heap.size + 2 := by simp
  rw [zs] at X2
  have HN := hid (h.below B0.out)
  clear h zs
  generalize ((w.alloc (.cells #[.int .i64 t1, .int .i64 t2, .int .i64 c, .int .i64 m, .int .i64 wk, .slice ta tn tc, .int .i64 st] 30)).alloc (.cells #[.int .i64 0, .int .i64 0, .int .i64 0, .int .i64 0, .int .i64 0, .slice none 0 0, .int .i64 0] 30)) = W0 at *
  have c5 := X1.out.cellAt 5 (.slice ta tn tc) rfl
  have b1 := (Below.refl W0.heap.size W0).alloc (Nat.le_refl _) (.cells #[] 3)
  have d5 := keepc b1 c5
  have O0 := hid (OwnE.lit 3 1 encN W0)
  have H1 := hid (HN.out.below b1)
  have Z1 := hid (X1.out.below b1)
  have Z2 := hid (X2.out.below b1)
  have B1 := hid (B0.out.alloc B0.out.size (.cells #[] 3))
  have LS : Hid (w.heap.size + 2 ≤ (W0.alloc (.cells #[] 3)).heap.size) := by unfold Hid; simp; omega
  clear c5 b1 X1 X2 B0 HN
  have Z0 := hid zt
  clear zt
  go_wp2_with (at_builtin; refine cat_ownE 28 3 (.int .i64 0) 8 encN_len encN_one Try.underlying28 infoN rfl (by decide) _ rfl (.tmp 3) (.tmp 5) rfl W0.heap.size 0 (.slice (some ⟨W0.heap.size, 0, none⟩) 0 0) [] rfl O0.out (by simp) ta tn tc tk rfl H1.out (by omega) (by omega) ?_)
  intro v W1 h1 h2 h3
  have O1 : Hid (OwnN W0.heap.size W1 v tn tk) := by unfold Hid; simpa using h1
  have hs := h3.size
  replace Z1 := hid (show Blk W1 w.heap.size _ _ from (h3.block w.heap.size Z1.out.lt (by simp [Value.ownBlock]; have := Z0.out; omega)).trans Z1.out)
  replace Z2 := hid (show Blk W1 (w.heap.size + 1) _ _ from (h3.block (w.heap.size + 1) Z2.out.lt (by simp [Value.ownBlock]; have := Z0.out; omega)).trans Z2.out)
  replace B1 := hid (B1.out.grown h3 (by have := B1.out.size; omega) (fun g e => by simp [Value.ownBlock] at e; have := Z0.out; omega))
  clear h1 h2 h3 H1 O0 d5
  have y5 := Z1.out.cellAt 5 (.slice ta tn tc) rfl
  have f5 : W1.frozen? ⟨w.heap.size, 5, none⟩ = false := Z1.out.froz
  obtain ⟨va, vc, rfl⟩ := O1.out.form
  go_upto_region 2 with fail
  replace Z1 := hid (Z1.out.put (i := 5) (.slice va tn vc))
  replace Z2 := hid (Z2.out.cellO ⟨w.heap.size, 5, none⟩ (.slice va tn vc) (by show w.heap.size + 1 ≠ w.heap.size; omega))
  replace B1 := hid (B1.out.setCell (p := ⟨w.heap.size, 5, none⟩) (Nat.le_refl _) (.slice va tn vc))
  replace O1 := hid (O1.out.cellO ⟨w.heap.size, 5, none⟩ (.slice va tn vc) (by show w.heap.size < W0.heap.size; have := Z0.out; omega))
  clear y5 f5
  generalize W1.setCell ⟨w.heap.size, 5, none⟩ (.slice va tn vc) = W2 at *
  have LD := Z1.out.loadAt Try.underlying30 rfl sizeTask
  have BH := Z2.out
  unfold Blk at BH
  go_wp2_with (first | refine wpList_load_at 30 rfl (.tmp 1) rfl _ _ rfl _ LD ?_ | refine wpList_store_row rfl 30 (.tmp 2) (.tmp 8) rfl (w.heap.size + 1) #[.int .i64 t1, .int .i64 t2, .int .i64 c, .int .i64 m, .int .i64 wk, .slice va tn vc, .int .i64 st] rfl rfl 30 _ BH sizeTask rfl (by simp [Value.oneCell']) ?_)
  refine bodyPost_ret (results_cell rfl rfl ((Z2.out.row #[.int .i64 t1, .int .i64 t2, .int .i64 c, .int .i64 m, .int .i64 wk, .slice va tn vc, .int .i64 st]).loadVar Try.underlying30 rfl sizeTask)) rfl ?_
  exact ⟨_, rfl, (O1.out.row (by have := Z0.out; omega) _).weaken (by have := Z0.out; omega), setRow_below B1.out (by omega)⟩

set_option maxRecDepth 100000 in
set_option maxHeartbeats 8000000 in
theorem tentry_any (gp cl sq kd ci ir bt si q1 q2 q3 q4 q5 q6 q7 n1 n2 n3 n4 n5 t1 t2 c m wk st : Int) (ta : Option Addr) (tn tc : Nat) (tk : List Int) (w : World) (h : HoldsN w ta tn tc tk) (hm : tn * 8 ≤ 140737488355328) :
    Calls Try.prog 11 #[.agg #[.int .i64 gp, .int .i64 cl, .int .i64 sq, .int .i64 kd, .int .i64 ci, .int .i64 ir, .int .i64 bt, .int .i64 si, .int .i64 q1, .int .i64 q2, .int .i64 q3, .int .i64 q4, .int .i64 q5, .int .i64 q6, .int .i64 q7, .int .i64 n1, .int .i64 n2, .int .i64 n3, .int .i64 n4, .int .i64 n5, .int .i64 t1, .int .i64 t2, .int .i64 c, .int .i64 m, .int .i64 wk, .slice ta tn tc, .int .i64 st]] w fun e w' => ∃ v, e = .returned (.agg #[.int .i64 gp, .int .i64 cl, .int .i64 sq, .int .i64 kd, .int .i64 ci, .int .i64 ir, .int .i64 bt, .int .i64 si, .int .i64 q1, .int .i64 q2, .int .i64 q3, .int .i64 q4, .int .i64 q5, .int .i64 q6, .int .i64 q7, .int .i64 n1, .int .i64 n2, .int .i64 n3, .int .i64 n4, .int .i64 n5, .int .i64 t1, .int .i64 t2, .int .i64 c, .int .i64 m, .int .i64 wk, v, .int .i64 st]) ∧ OwnN w.heap.size w' v tn tk ∧ Below w.heap.size w w' := by
  go_enter Try.func11, Try.ntmps11
  go_upto_region 1 with fail
  have B0 := hid (((Below.refl w.heap.size w).alloc (Nat.le_refl _) (.cells #[.int .i64 gp, .int .i64 cl, .int .i64 sq, .int .i64 kd, .int .i64 ci, .int .i64 ir, .int .i64 bt, .int .i64 si, .int .i64 q1, .int .i64 q2, .int .i64 q3, .int .i64 q4, .int .i64 q5, .int .i64 q6, .int .i64 q7, .int .i64 n1, .int .i64 n2, .int .i64 n3, .int .i64 n4, .int .i64 n5, .int .i64 t1, .int .i64 t2, .int .i64 c, .int .i64 m, .int .i64 wk, .slice ta tn tc, .int .i64 st] 34)).alloc (by simp) (.cells #[.int .i64 0, .int .i64 0, .int .i64 0, .int .i64 0, .int .i64 0, .int .i64 0, .int .i64 0, .int .i64 0, .int .i64 0, .int .i64 0, .int .i64 0, .int .i64 0, .int .i64 0, .int .i64 0, .int .i64 0, .int .i64 0, .int .i64 0, .int .i64 0, .int .i64 0, .int .i64 0, .int .i64 0, .int .i64 0, .int .i64 0, .int .i64 0, .int .i64 0, .slice none 0 0, .int .i64 0] 34))
  have X1 := hid ((Blk.alloc w #[.int .i64 gp, .int .i64 cl, .int .i64 sq, .int .i64 kd, .int .i64 ci, .int .i64 ir, .int .i64 bt, .int .i64 si, .int .i64 q1, .int .i64 q2, .int .i64 q3, .int .i64 q4, .int .i64 q5, .int .i64 q6, .int .i64 q7, .int .i64 n1, .int .i64 n2, .int .i64 n3, .int .i64 n4, .int .i64 n5, .int .i64 t1, .int .i64 t2, .int .i64 c, .int .i64 m, .int .i64 wk, .slice ta tn tc, .int .i64 st] (34)).below ((Below.refl _ _).alloc (Nat.le_refl _) (.cells #[.int .i64 0, .int .i64 0, .int .i64 0, .int .i64 0, .int .i64 0, .int .i64 0, .int .i64 0, .int .i64 0, .int .i64 0, .int .i64 0, .int .i64 0, .int .i64 0, .int .i64 0, .int .i64 0, .int .i64 0, .int .i64 0, .int .i64 0, .int .i64 0, .int .i64 0, .int .i64 0, .int .i64 0, .int .i64 0, .int .i64 0, .int .i64 0, .int .i64 0, .slice none 0 0, .int .i64 0] 34)))
  have X2 := hid (Blk.alloc (w.alloc (.cells #[.int .i64 gp, .int .i64 cl, .int .i64 sq, .int .i64 kd, .int .i64 ci, .int .i64 ir, .int .i64 bt, .int .i64 si, .int .i64 q1, .int .i64 q2, .int .i64 q3, .int .i64 q4, .int .i64 q5, .int .i64 q6, .int .i64 q7, .int .i64 n1, .int .i64 n2, .int .i64 n3, .int .i64 n4, .int .i64 n5, .int .i64 t1, .int .i64 t2, .int .i64 c, .int .i64 m, .int .i64 wk, .slice ta tn tc, .int .i64 st] 34)) #[.int .i64 0, .int .i64 0, .int .i64 0, .int .i64 0, .int .i64 0, .int .i64 0, .int .i64 0, .int .i64 0, .int .i64 0, .int .i64 0, .int .i64 0, .int .i64 0, .int .i64 0, .int .i64 0, .int .i64 0, .int .i64 0, .int .i64 0, .int .i64 0, .int .i64 0, .int .i64 0, .int .i64 0, .int .i64 0, .int .i64 0, .int .i64 0, .int .i64 0, .slice none 0 0, .int .i64 0] (34))
  have zs : (w.alloc (.cells #[.int .i64 gp, .int .i64 cl, .int .i64 sq, .int .i64 kd, .int .i64 ci, .int .i64 ir, .int .i64 bt, .int .i64 si, .int .i64 q1, .int .i64 q2, .int .i64 q3, .int .i64 q4, .int .i64 q5, .int .i64 q6, .int .i64 q7, .int .i64 n1, .int .i64 n2, .int .i64 n3, .int .i64 n4, .int .i64 n5, .int .i64 t1, .int .i64 t2, .int .i64 c, .int .i64 m, .int .i64 wk, .slice ta tn tc, .int .i64 st] 34)).heap.size = w.heap.size + 1 := by simp
  have zt : ((w.alloc (.cells #[.int .i64 gp, .int .i64 cl, .int .i64 sq, .int .i64 kd, .int .i64 ci, .int .i64 ir, .int .i64 bt, .int .i64 si, .int .i64 q1, .int .i64 q2, .int .i64 q3, .int .i64 q4, .int .i64 q5, .int .i64 q6, .int .i64 q7, .int .i64 n1, .int .i64 n2, .int .i64 n3, .int .i64 n4, .int .i64 n5, .int .i64 t1, .int .i64 t2, .int .i64 c, .int .i64 m, .int .i64 wk, .slice ta tn tc, .int .i64 st] 34)).alloc (.cells #[.int .i64 0, .int .i64 0, .int .i64 0, .int .i64 0, .int .i64 0, .int .i64 0, .int .i64 0, .int .i64 0, .int .i64 0, .int .i64 0, .int .i64 0, .int .i64 0, .int .i64 0, .int .i64 0, .int .i64 0, .int .i64 0, .int .i64 0, .int .i64 0, .int .i64 0, .int .i64 0, .int .i64 0, .int .i64 0, .int .i64 0, .int .i64 0, .int .i64 0, .slice none 0 0, .int .i64 0] 34)).heap.size = w.heap.size + 2 := by simp
  rw [zs] at X2
  have HN := h.below B0.out
  clear h zs
  generalize ((w.alloc (.cells #[.int .i64 gp, .int .i64 cl, .int .i64 sq, .int .i64 kd, .int .i64 ci, .int .i64 ir, .int .i64 bt, .int .i64 si, .int .i64 q1, .int .i64 q2, .int .i64 q3, .int .i64 q4, .int .i64 q5, .int .i64 q6, .int .i64 q7, .int .i64 n1, .int .i64 n2, .int .i64 n3, .int .i64 n4, .int .i64 n5, .int .i64 t1, .int .i64 t2, .int .i64 c, .int .i64 m, .int .i64 wk, .slice ta tn tc, .int .i64 st] 34)).alloc (.cells #[.int .i64 0, .int .i64 0, .int .i64 0, .int .i64 0, .int .i64 0, .int .i64 0, .int .i64 0, .int .i64 0, .int .i64 0, .int .i64 0, .int .i64 0, .int .i64 0, .int .i64 0, .int .i64 0, .int .i64 0, .int .i64 0, .int .i64 0, .int .i64 0, .int .i64 0, .int .i64 0, .int .i64 0, .int .i64 0, .int .i64 0, .int .i64 0, .int .i64 0, .slice none 0 0, .int .i64 0] 34)) = W0 at *
  have C := hid (ttask_any t1 t2 c m wk st ta tn tc tk W0 HN hm)
  have LD := run_loadAt_mid (P := Try.prog) W0 w.heap.size 20 30 (#[.int .i64 t1, .int .i64 t2, .int .i64 c, .int .i64 m, .int .i64 wk, .slice ta tn tc, .int .i64 st] : Array Value).toList _ (Box.mid X1.out.boxD 20 7 _ rfl) Try.underlying30 rfl sizeTask
  clear HN
  have Z0 := hid zt
  clear zt
  go_wp2_with (refine wpList_load_at 30 rfl (.tmp 4) rfl _ _ rfl _ LD ?_)
  clear LD
  with_reducible refine C.out.mono ?_
  rintro e W1 ⟨v, rfl, h1, b1⟩
  have O1 := hid h1
  replace X1 := hid (X1.out.below b1)
  replace X2 := hid (X2.out.below b1)
  have B1 := hid (B0.out.trans (b1.mono B0.out.size))
  clear C h1 b1 B0
  obtain ⟨va, vc, rfl⟩ := O1.out.form
  have TH := X1.out.there 20 7 (Nat.le_refl 27)
  go_upto_region 2 with (refine wpList_store_mid rfl 30 (.tmp 8) (.tmp 6) rfl w.heap.size 20 #[.int .i64 t1, .int .i64 t2, .int .i64 c, .int .i64 m, .int .i64 wk, .slice va tn vc, .int .i64 st] rfl rfl TH sizeTask (by simp [Value.oneCell']) ?_)
  clear TH
  replace X1 := hid (X1.out.cells (#[.int .i64 t1, .int .i64 t2, .int .i64 c, .int .i64 m, .int .i64 wk, .slice va tn vc, .int .i64 st] : Array Value).toList 20)
  replace X2 := hid (X2.out.cellsO (#[.int .i64 t1, .int .i64 t2, .int .i64 c, .int .i64 m, .int .i64 wk, .slice va tn vc, .int .i64 st] : Array Value).toList 20 w.heap.size (by omega))
  replace B1 := hid (setCells_below (#[.int .i64 t1, .int .i64 t2, .int .i64 c, .int .i64 m, .int .i64 wk, .slice va tn vc, .int .i64 st] : Array Value).toList 20 w.heap.size B1.out (Nat.le_refl _))
  replace O1 := hid (O1.out.cellsO (#[.int .i64 t1, .int .i64 t2, .int .i64 c, .int .i64 m, .int .i64 wk, .slice va tn vc, .int .i64 st] : Array Value).toList 20 w.heap.size (by have := Z0.out; omega))
  generalize W1.setCells w.heap.size 20 (#[.int .i64 t1, .int .i64 t2, .int .i64 c, .int .i64 m, .int .i64 wk, .slice va tn vc, .int .i64 st] : Array Value).toList = W2 at *
  have X1' : Blk W2 w.heap.size 34 #[.int .i64 gp, .int .i64 cl, .int .i64 sq, .int .i64 kd, .int .i64 ci, .int .i64 ir, .int .i64 bt, .int .i64 si, .int .i64 q1, .int .i64 q2, .int .i64 q3, .int .i64 q4, .int .i64 q5, .int .i64 q6, .int .i64 q7, .int .i64 n1, .int .i64 n2, .int .i64 n3, .int .i64 n4, .int .i64 n5, .int .i64 t1, .int .i64 t2, .int .i64 c, .int .i64 m, .int .i64 wk, .slice va tn vc, .int .i64 st] := X1.out
  have LD := X1'.loadAt Try.underlying34 rfl sizeEnt
  have BH := X2.out
  unfold Blk at BH
  go_wp2_with (first | refine wpList_load_at 34 rfl (.tmp 1) rfl _ _ rfl _ LD ?_ | refine wpList_store_row rfl 34 (.tmp 2) (.tmp 9) rfl (w.heap.size + 1) #[.int .i64 gp, .int .i64 cl, .int .i64 sq, .int .i64 kd, .int .i64 ci, .int .i64 ir, .int .i64 bt, .int .i64 si, .int .i64 q1, .int .i64 q2, .int .i64 q3, .int .i64 q4, .int .i64 q5, .int .i64 q6, .int .i64 q7, .int .i64 n1, .int .i64 n2, .int .i64 n3, .int .i64 n4, .int .i64 n5, .int .i64 t1, .int .i64 t2, .int .i64 c, .int .i64 m, .int .i64 wk, .slice va tn vc, .int .i64 st] rfl rfl 34 _ BH sizeEnt rfl (by simp [Value.oneCell']) ?_)
  refine bodyPost_ret (results_cell rfl rfl ((X2.out.row #[.int .i64 gp, .int .i64 cl, .int .i64 sq, .int .i64 kd, .int .i64 ci, .int .i64 ir, .int .i64 bt, .int .i64 si, .int .i64 q1, .int .i64 q2, .int .i64 q3, .int .i64 q4, .int .i64 q5, .int .i64 q6, .int .i64 q7, .int .i64 n1, .int .i64 n2, .int .i64 n3, .int .i64 n4, .int .i64 n5, .int .i64 t1, .int .i64 t2, .int .i64 c, .int .i64 m, .int .i64 wk, .slice va tn vc, .int .i64 st]).loadVar Try.underlying34 rfl sizeEnt)) rfl ?_
  exact ⟨_, rfl, (O1.out.row (by have := Z0.out; omega) _).weaken (by have := Z0.out; omega), setRow_below B1.out (by omega)⟩
end Go.Proofs.Ythkbddnkcljjpaa

namespace Go.Proofs.Ythkbddnkcljjpaa
open Go.RowKit Go.Deep Go.Maps
set_option linter.unusedVariables false
set_option linter.unusedSimpArgs false

set_option maxRecDepth 100000 in
theorem infoLea : (Try.prog.info? 138).map (fun i => (i.zero, i.size, i.bytes)) = some (some (.agg #[.int .i64 0, .int .i64 0, .int .i64 0, .slice none 0 0, .int .i64 0, .int .i64 0, .int .i64 0, .bool false]), 8, 80) := by kernel_rfl
theorem same_snoc {ls ls' : List Le} {k : Nat} {y : Le} (h : ∀ j (g1 : j < ls.length) (g2 : j < ls'.length), LeSame ls[j] ls'[j]) (hl : ls'.length = k) (hk : k < ls.length) (hy : LeSame ls[k] y) : ∀ j (g1 : j < ls.length) (g2 : j < (ls' ++ [y]).length), LeSame ls[j] (ls' ++ [y])[j] := fun j g1 g2 => by
  by_cases hj : j < ls'.length
  · rw [List.getElem_append_left hj]; exact h j g1 hj
  · have e : j = k := by rw [List.length_append] at g2; simp at g2; omega
    subst e
    rw [List.getElem_append_right (by omega)]
    simp only [hl, Nat.sub_self, List.getElem_cons_zero]
    exact hy

theorem OwnE.cellN {α : Type} {e : TypeId} {k : Nat} {enc : α → List Value} {base n : Nat} {l : List α} {v : Value} {w : World} (h : OwnE e k enc base w v n l) (a : Addr) (u : Value) (h1 : ∀ g, v.ownBlock = some g → g ≠ a.block) : OwnE e k enc base (w.setCell a u) v n l := by
  obtain ⟨h0, h3, h4⟩ := h
  refine ⟨h0, h3, ?_⟩
  rcases h4 with h4 | ⟨g, cap, cur, hv, hg, hh, r⟩
  · exact .inl h4
  · exact .inr ⟨g, cap, cur, hv, hg, (Below.heap_setCell w a u g (h1 g (by rw [hv]; rfl))).trans hh, r⟩
/-- Rows of two types lie in two blocks. -/
theorem own_ne {α β : Type} {e e' : TypeId} {k k' : Nat} {enc : α → List Value} {enc' : β → List Value} {base base' n n' : Nat} {l : List α} {l' : List β} {v v' : Value} {w : World} (h : OwnE e k enc base w v n l) (h' : OwnE e' k' enc' base' w v' n' l') (hne : e ≠ e') : ∀ g, v.ownBlock = some g → v'.ownBlock ≠ some g := fun g hg hg' => by
  rcases h.2.2 with ⟨rfl, _⟩ | ⟨b, cap, cur, rfl, _, hh, _⟩
  · simp [Value.ownBlock] at hg
  · rcases h'.2.2 with ⟨rfl, _⟩ | ⟨b', cap', cur', rfl, _, hh', _⟩
    · simp [Value.ownBlock] at hg'
    · simp [Value.ownBlock] at hg hg'
      subst hg hg'
      rw [hh] at hh'
      simp at hh'
      exact hne hh'.2
theorem OwnE.grownN {α : Type} {e : TypeId} {k : Nat} {enc : α → List Value} {base n : Nat} {l : List α} {v : Value} {w w' : World} (h : OwnE e k enc base w v n l) {row : Option Nat} (hg : w.grownBy w' row) (h1 : ∀ g, v.ownBlock = some g → row ≠ some g) : OwnE e k enc base w' v n l :=
  ⟨h.1, h.2.kept hg (by
    cases hv : v.ownBlock with
    | none => exact .inl rfl
    | some g => exact .inr (fun e => h1 g hv e.symm))⟩
set_option maxRecDepth 100000 in
set_option maxHeartbeats 8000000 in
theorem tleases_any (a : Option Addr) (n c : Nat) (ls : List Le) (w : World) (h : HoldsE 8 Le.cs w a n c ls) (ha : ∀ x ∈ ls, HoldsN w x.sa x.sl x.sc x.co) (hs : c * 80 ≤ 140737488351232) (hn : ∀ x ∈ ls, x.sc * 8 ≤ 140737488351232) :
    Calls Try.prog 44 #[.slice a n c] w fun e w' => ∃ v ls', e = .returned v ∧ OwnE 138 8 Le.cs w.heap.size w' v n ls' ∧ (∀ k (g1 : k < ls.length) (g2 : k < ls'.length), LeSame ls[k] ls'[k]) ∧ (∀ x ∈ ls', OwnN w.heap.size w' (.slice x.sa x.sl x.sc) x.sl x.co) ∧ Below w.heap.size w w' := by
  have HN := hid h.1
  have RA := hid (fun hp => h.rangeAt hp)
  have HA := hid ha
  have HS := hid hn
  have tcap := h.2.1
  have tcm := h.2.2.1
  clear h ha hn
  go_enter Try.func44, Try.ntmps44
  go_wp2_with fail
  go_loopw [3, 8] (fun v i wr => ∃ k : Nat, k ≤ n ∧ i = .int .i64 (k : Int) ∧ ∃ ls', Hid (OwnE 138 8 Le.cs w.heap.size wr v k ls') ∧ Hid (∀ j (g1 : j < ls.length) (g2 : j < ls'.length), LeSame ls[j] ls'[j]) ∧ Hid (∀ x ∈ ls', OwnN w.heap.size wr (.slice x.sa x.sl x.sc) x.sl x.co) ∧ Hid (Below w.heap.size w wr)) (fun _ i _ => n - (intOf i).toNat)
  case atStart => exact ⟨0, by omega, rfl, [], OwnE.nil _ _ _ _ _, (fun j _ g => absurd g (by simp)), (fun x hx => by cases hx), Below.refl _ _⟩
  case round =>
    obtain ⟨k, hk', rfl, ls', HO, HL, HH, BR⟩ := hrel
    have hlk : Hid (ls'.length = k) := HO.out.len
    by_cases hlt : k < n
    · have hlt' : k < ls.length := by rw [HN.out]; exact hlt
      obtain ⟨b, off, rfl, hbl, RI⟩ := RA.out (by omega)
      have RG := rangeAt_below (RI k ls[k] (List.getElem?_eq_getElem hlt')) BR.out
      have hmem := List.getElem_mem hlt'
      have HC := hid ((HA.out _ hmem).below BR.out)
      have HCS := HS.out _ hmem
      have SN := hid (fun y => same_snoc (y := y) HL.out hlk.out hlt')
      have ka : (0 : Int) ≤ (k : Int) := by omega
      have kb : (k : Int) < (n : Int) := by omega
      clear RI hmem
      generalize ls[k] = X at *
      obtain ⟨x0, x1, x2, sa, sl, sc, x4, x5, x6, x7, co⟩ := X
      simp only at HC HCS
      have hsl := HC.out.2.1
      go_upto_region 5 with (first | refine wpList_load_mid rfl 138 (.tmp 10) rfl _ _ rfl _ _ RG Try.underlying138 rfl sizeLease ?_ | refine wpList_store_row rfl 138 (.tmp 5) (.tmp 11) rfl wr.heap.size #[.int .i64 x0, .int .i64 x1, .int .i64 x2, .slice sa sl sc, .int .i64 x4, .int .i64 x5, .int .i64 x6, .bool x7] rfl rfl 138 _ (heap_alloc_new wr _) sizeLease rfl (by simp [Value.oneCell']) ?_)
      rw [alloc_row]
      have b2 := (Below.refl wr.heap.size wr).alloc (Nat.le_refl _) (.cells #[.int .i64 x0, .int .i64 x1, .int .i64 x2, .slice sa sl sc, .int .i64 x4, .int .i64 x5, .int .i64 x6, .bool x7] 138)
      have X1 := hid (Blk.alloc wr #[.int .i64 x0, .int .i64 x1, .int .i64 x2, .slice sa sl sc, .int .i64 x4, .int .i64 x5, .int .i64 x6, .bool x7] (138))
      have O2 := hid (HO.out.below b2)
      have H2 := hid (fun x hx => (HH.out x hx).below b2)
      have C2 := hid (HC.out.below b2)
      have B2 := hid (BR.out.alloc BR.out.size (.cells #[.int .i64 x0, .int .i64 x1, .int .i64 x2, .slice sa sl sc, .int .i64 x4, .int .i64 x5, .int .i64 x6, .bool x7] 138))
      have QL : Hid (w.heap.size ≤ wr.heap.size) := BR.out.size
      have QO : Hid (∀ g, u3.ownBlock = some g → g < wr.heap.size) := fun g e => (HO.out.lt g e).2
      have QH : Hid (∀ x ∈ ls', ∀ g, (Value.slice x.sa x.sl x.sc).ownBlock = some g → g < wr.heap.size) := fun x hx g e => ((HH.out x hx).lt g e).2
      clear RG b2 HO HH HC BR
      generalize wr.alloc (.cells #[.int .i64 x0, .int .i64 x1, .int .i64 x2, .slice sa sl sc, .int .i64 x4, .int .i64 x5, .int .i64 x6, .bool x7] 138) = w2 at *
      generalize wr.heap.size = Q at *
      have c3 := X1.out.cellAt 3 (.slice sa sl sc) rfl
      have b3 := (Below.refl w2.heap.size w2).alloc (Nat.le_refl _) (.cells #[] 3)
      have d3 := keepc b3 c3
      have O0 := hid (OwnE.lit 3 1 encN w2)
      have C3 := hid (C2.out.below b3)
      have X3 := hid (X1.out.below b3)
      have O3 := hid (O2.out.below b3)
      have H3 := hid (fun x hx => (H2.out x hx).below b3)
      have B3 := hid (B2.out.alloc B2.out.size (.cells #[] 3))
      have QW : Hid (Q < w2.heap.size) := X1.out.lt
      clear c3 b3 X1 O2 H2 C2 B2
      go_wp2_with (at_builtin; refine cat_ownE 28 3 (.int .i64 0) 8 encN_len encN_one Try.underlying28 infoN rfl (by decide) _ rfl (.tmp 12) (.tmp 14) rfl w2.heap.size 0 (.slice (some ⟨w2.heap.size, 0, none⟩) 0 0) [] rfl O0.out (by simp) sa sl sc co rfl C3.out (by omega) (by omega) ?_)
      intro v5 w5 h5 k5 g5
      have O5 : Hid (OwnN w2.heap.size w5 v5 sl co) := by unfold Hid; simpa using h5
      have hs5 := g5.size
      have X5 := hid (show Blk w5 Q _ _ from (g5.block Q X3.out.lt (by simp [Value.ownBlock]; have := QW.out; omega)).trans X3.out)
      have OB5 : Hid (OwnE 138 8 Le.cs w.heap.size w5 u3 k ls') := ⟨O3.out.1, O3.out.2.kept g5 (by
        cases hv : u3.ownBlock with
        | none => exact .inl rfl
        | some g => exact .inr (fun e => by simp [Value.ownBlock] at e; have := QO.out g hv; have := QW.out; omega))⟩
      have B5 := hid (B3.out.trans (k5.mono (by have := QL.out; have := QW.out; omega)))
      have H5 : Hid (∀ x ∈ ls', OwnN w.heap.size w5 (.slice x.sa x.sl x.sc) x.sl x.co) := fun x hx => (H3.out x hx).grownN g5 (fun g e e2 => by simp [Value.ownBlock] at e2; have := QH.out x hx g e; have := QW.out; omega)
      clear h5 k5 g5 X3 O3 H3 B3 C3 O0 d3
      obtain ⟨va, vc, rfl⟩ := O5.out.form
      have y3 := X5.out.cellAt 3 (.slice sa sl sc) rfl
      have f3 : w5.frozen? ⟨Q, 3, none⟩ = false := X5.out.froz
      go_upto_region 6 with fail
      have X6 : Hid (Blk (w5.setCell ⟨Q, 3, none⟩ (.slice va sl vc)) Q 138 #[.int .i64 x0, .int .i64 x1, .int .i64 x2, .slice va sl vc, .int .i64 x4, .int .i64 x5, .int .i64 x6, .bool x7]) := X5.out.put (i := 3) (.slice va sl vc)
      have O6 := hid (O5.out.cellO ⟨Q, 3, none⟩ (.slice va sl vc) QW.out)
      have OB6 := hid (OB5.out.cellN ⟨Q, 3, none⟩ (.slice va sl vc) (fun g e => by have := QO.out g e; show g ≠ Q; omega))
      have H6 : Hid (∀ x ∈ ls', OwnN w.heap.size (w5.setCell ⟨Q, 3, none⟩ (.slice va sl vc)) (.slice x.sa x.sl x.sc) x.sl x.co) := fun x hx => (H5.out x hx).cellN _ _ (fun g e => by have := QH.out x hx g e; show g ≠ Q; omega)
      have B6 := hid (B5.out.setCell (p := ⟨Q, 3, none⟩) QL.out (.slice va sl vc))
      clear y3 f3 X5 O5 OB5 H5 B5
      generalize w5.setCell ⟨Q, 3, none⟩ (.slice va sl vc) = w6 at *
      have LD := X6.out.loadAt Try.underlying138 rfl sizeLease
      have NL : Hid ((k + 1) * 80 ≤ 140737488355328) := by unfold Hid; omega
      have s6 : Hid (w.heap.size ≤ w6.heap.size) := B6.out.size
      go_wp2_with (first | refine wpList_load_at 138 rfl (.tmp 5) rfl _ _ rfl _ LD ?_ | (at_builtin; refine push_ownE 44 138 _ 80 Le.cs_len Le.one Try.underlying44 infoLea rfl (by decide) w6 (⟨x0, x1, x2, va, sl, vc, x4, x5, x6, x7, co⟩ : Le) rfl (.tmp 17) (.tmp 19) rfl w.heap.size k u3 ls' #[.int .i64 x0, .int .i64 x1, .int .i64 x2, .slice va sl vc, .int .i64 x4, .int .i64 x5, .int .i64 x6, .bool x7] rfl rfl OB6.out s6.out (by simp [Act.eval]) (by omega) NL.out ?_))
      intro v7 w7 h7 b7 g7
      have O7 := hid h7
      have B7 := hid (B6.out.trans b7)
      have HS7 := hid (SN.out (⟨x0, x1, x2, va, sl, vc, x4, x5, x6, x7, co⟩ : Le) ⟨rfl, rfl, rfl, rfl, rfl, rfl, rfl, rfl, rfl⟩)
      have H7 : Hid (∀ x ∈ ls' ++ [(⟨x0, x1, x2, va, sl, vc, x4, x5, x6, x7, co⟩ : Le)], OwnN w.heap.size w7 (.slice x.sa x.sl x.sc) x.sl x.co) := fun x hx => by
        rcases List.mem_append.1 hx with hx | hx
        · exact (H6.out x hx).grownN g7 (own_ne (H6.out x hx) OB6.out (by decide))
        · simp only [List.mem_singleton] at hx
          subst hx
          exact (O6.out.grownN g7 (own_ne O6.out OB6.out (by decide))).weaken (by have := QW.out; have := QL.out; omega)
      clear h7 b7 g7 O6 OB6 H6 B6 X6 LD
      go_wp2_with fail
      refine ⟨⟨k + 1, by omega, by go_num, _, O7, HS7, H7, B7⟩, ?_⟩
      simp [intOf]; omega
    · obtain rfl : n = k := by omega
      go_wp2_with fail
      go_ret
      exact ⟨_, ls', rfl, HO.out, HL.out, HH.out, BR.out⟩
end Go.Proofs.Ythkbddnkcljjpaa

namespace Go.Proofs.Ythkbddnkcljjpaa
open Go.RowKit Go.Deep Go.Maps
set_option linter.unusedVariables false
set_option linter.unusedSimpArgs false

set_option maxRecDepth 100000 in
set_option maxHeartbeats 4000000 in
theorem sanswer_any (er at' an : Int) (ca cb : Option Addr) (cn cc cd : Nat) (co : List Int) (la lb : Option Addr) (ln lc ld : Nat) (ls ls' : List Le) (w : World) (h1 : HoldsN w ca cn cc co) (h2 : HoldsN w cb cn cd co) (hm : cn ≤ 140737488355328) (hl1 : HoldsE 8 Le.cs w la ln lc ls) (hl2 : HoldsE 8 Le.cs w lb ln ld ls') (la1 : ∀ x ∈ ls, HoldsN w x.sa x.sl x.sc x.co) (la2 : ∀ x ∈ ls', HoldsN w x.sa x.sl x.sc x.co) (las : ∀ k (g1 : k < ls.length) (g2 : k < ls'.length), LeSame ls[k] ls'[k]) (lam : ∀ x ∈ ls, x.sl ≤ 140737488355328) :
    Calls Try.prog 26 #[.agg #[.int .i64 er, .int .i64 at', .int .i64 an, .slice ca cn cc, .slice la ln lc], .agg #[.int .i64 er, .int .i64 at', .int .i64 an, .slice cb cn cd, .slice lb ln ld]] w fun e w' => e = .returned (.bool true) ∧ Below w.heap.size w w' := by
  have LS := hid (fun W (b : Below w.heap.size w W) => sleases_any la lb ln lc ld ls ls' W (hl1.below b) (hl2.below b) (fun x hx => (la1 x hx).below b) (fun x hx => (la2 x hx).below b) las lam)
  have HC := hid (fun W (b : Below w.heap.size w W) => ints_any ca cb cn cc cd co W (h1.below b) (h2.below b) hm)
  clear h1 h2 hl1 hl2 la1 la2 las lam
  go_enter Try.func26, Try.ntmps26
  go_upto_region 1 with fail
  have B0 := hid (((Below.refl w.heap.size w).alloc (Nat.le_refl _) (.cells #[.int .i64 er, .int .i64 at', .int .i64 an, .slice ca cn cc, .slice la ln lc] 46)).alloc (by simp) (.cells #[.int .i64 er, .int .i64 at', .int .i64 an, .slice cb cn cd, .slice lb ln ld] 46))
  have X1 := hid ((Blk.alloc w #[.int .i64 er, .int .i64 at', .int .i64 an, .slice ca cn cc, .slice la ln lc] (46)).below ((Below.refl _ _).alloc (Nat.le_refl _) (.cells #[.int .i64 er, .int .i64 at', .int .i64 an, .slice cb cn cd, .slice lb ln ld] 46)))
  have X2 := hid (Blk.alloc (w.alloc (.cells #[.int .i64 er, .int .i64 at', .int .i64 an, .slice ca cn cc, .slice la ln lc] 46)) #[.int .i64 er, .int .i64 at', .int .i64 an, .slice cb cn cd, .slice lb ln ld] (46))
  generalize ((w.alloc (.cells #[.int .i64 er, .int .i64 at', .int .i64 an, .slice ca cn cc, .slice la ln lc] 46)).alloc (.cells #[.int .i64 er, .int .i64 at', .int .i64 an, .slice cb cn cd, .slice lb ln ld] 46)) = W0 at *
  rw [World.size_alloc] at X2
  have C := hid (HC.out W0 B0.out)
  have y0 := X1.out.boxE 0 (.int .i64 er) rfl
  have y1 := X1.out.boxE 1 (.int .i64 at') rfl
  have y2 := X1.out.boxE 2 (.int .i64 an) rfl
  have y3 := X1.out.boxE 3 (.slice ca cn cc) rfl
  have z0 := X2.out.boxE 0 (.int .i64 er) rfl
  have z1 := X2.out.boxE 1 (.int .i64 at') rfl
  have z2 := X2.out.boxE 2 (.int .i64 an) rfl
  have z3 := X2.out.boxE 3 (.slice cb cn cd) rfl
  go_wp2_with fail
  with_reducible refine C.out.mono ?_
  rintro e W1 ⟨rfl, b1⟩
  have B1 := hid (B0.out.trans (b1.mono B0.out.size))
  have C2 := hid (LS.out W1 B1.out)
  have y4 := (X1.out.below b1).boxE 4 (.slice la ln lc) rfl
  have z4 := (X2.out.below b1).boxE 4 (.slice lb ln ld) rfl
  clear C y0 y1 y2 y3 z0 z1 z2 z3 b1 B0 X1 X2
  go_wp2_with fail
  with_reducible refine C2.out.mono ?_
  rintro e W2 ⟨rfl, b2⟩
  have B2 := hid (B1.out.trans (b2.mono B1.out.size))
  clear C2 y4 z4 b2
  go_wp2_with fail
  go_ret
  exact ⟨rfl, B2.out⟩
end Go.Proofs.Ythkbddnkcljjpaa

namespace Go.Proofs.Ythkbddnkcljjpaa
open Go.RowKit Go.Deep Go.Maps
set_option linter.unusedVariables false
set_option linter.unusedSimpArgs false

set_option maxRecDepth 100000 in
set_option maxHeartbeats 16000000 in
theorem sstate_any (lo pa no : Int) (qa qb : Option Addr) (qn qc qd : Nat) (qs : List Q7) (na nb : Option Addr) (nn nc nd : Nat) (ns : List N5) (ta tb : Option Addr) (tn tc td : Nat) (ts ts' : List T7) (la lb : Option Addr) (ln lc ld : Nat) (ls ls' : List Le) (ha hb : Option Addr) (hn hc hd : Nat) (hs : List H2) (w : World) (hq1 : HoldsE 7 Q7.cs w qa qn qc qs) (hq2 : HoldsE 7 Q7.cs w qb qn qd qs) (hn1 : HoldsE 5 N5.cs w na nn nc ns) (hn2 : HoldsE 5 N5.cs w nb nn nd ns) (ht1 : HoldsE 7 T7.cs w ta tn tc ts) (ht2 : HoldsE 7 T7.cs w tb tn td ts') (ta1 : ∀ x ∈ ts, HoldsN w x.sa x.sl x.sc x.tk) (ta2 : ∀ x ∈ ts', HoldsN w x.sa x.sl x.sc x.tk) (tas : ∀ k (g1 : k < ts.length) (g2 : k < ts'.length), TaSame ts[k] ts'[k]) (tam : ∀ x ∈ ts, x.sl ≤ 140737488355328) (hl1 : HoldsE 8 Le.cs w la ln lc ls) (hl2 : HoldsE 8 Le.cs w lb ln ld ls') (la1 : ∀ x ∈ ls, HoldsN w x.sa x.sl x.sc x.co) (la2 : ∀ x ∈ ls', HoldsN w x.sa x.sl x.sc x.co) (las : ∀ k (g1 : k < ls.length) (g2 : k < ls'.length), LeSame ls[k] ls'[k]) (lam : ∀ x ∈ ls, x.sl ≤ 140737488355328) (hh1 : HoldsE 2 H2.cs w ha hn hc hs) (hh2 : HoldsE 2 H2.cs w hb hn hd hs) :
    Calls Try.prog 21 #[.agg #[.int .i64 lo, .int .i64 pa, .int .i64 no, .slice qa qn qc, .slice na nn nc, .slice ta tn tc, .slice la ln lc, .slice ha hn hc], .agg #[.int .i64 lo, .int .i64 pa, .int .i64 no, .slice qb qn qd, .slice nb nn nd, .slice tb tn td, .slice lb ln ld, .slice hb hn hd]] w fun e w' => e = .returned (.bool true) ∧ Below w.heap.size w w' := by
  have RAN1 := hid (fun hp => hn1.rangeAt hp)
  have RAN2 := hid (fun hp => hn2.rangeAt hp)
  have HNN1 := hid hn1.1
  have HNN2 := hid hn2.1
  have uN1 := hn1.2.1
  have uN2 := hn1.2.2.1
  have uN3 := hn2.2.1
  have uN4 := hn2.2.2.1
  have RAT1 := hid (fun hp => ht1.rangeAt hp)
  have RAT2 := hid (fun hp => ht2.rangeAt hp)
  have HNT1 := hid ht1.1
  have HNT2 := hid ht2.1
  have uT1 := ht1.2.1
  have uT2 := ht1.2.2.1
  have uT3 := ht2.2.1
  have uT4 := ht2.2.2.1
  have RAH1 := hid (fun hp => hh1.rangeAt hp)
  have RAH2 := hid (fun hp => hh2.rangeAt hp)
  have HNH1 := hid hh1.1
  have HNH2 := hid hh2.1
  have uH1 := hh1.2.1
  have uH2 := hh1.2.2.1
  have uH3 := hh2.2.1
  have uH4 := hh2.2.2.1
  have uq := hq1.2
  have ul := hl1.2
  have CQ := hid (fun W (H : Below w.heap.size w W) => squeues_any qa qb qn qc qd qs W (hq1.below H) (hq2.below H))
  have CL := hid (fun W (H : Below w.heap.size w W) => sleases_any la lb ln lc ld ls ls' W (hl1.below H) (hl2.below H) (fun x hx => (la1 x hx).below H) (fun x hx => (la2 x hx).below H) las lam)
  have CT := hid (fun k (g1 : k < ts.length) (g2 : k < ts'.length) W (H : Below w.heap.size w W) => stask_el ts[k] ts'[k] W ((ta1 _ (List.getElem_mem g1)).below H) ((ta2 _ (List.getElem_mem g2)).below H) (tas k g1 g2) (tam _ (List.getElem_mem g1)))
  clear hq1 hq2 hn1 hn2 ht1 ht2 ta1 ta2 tas tam hl1 hl2 la1 la2 las lam hh1 hh2
  go_enter Try.func21, Try.ntmps21
  go_upto_region 1 with fail
  have B0 := hid (((Below.refl w.heap.size w).alloc (Nat.le_refl _) (.cells #[.int .i64 lo, .int .i64 pa, .int .i64 no, .slice qa qn qc, .slice na nn nc, .slice ta tn tc, .slice la ln lc, .slice ha hn hc] 54)).alloc (by simp) (.cells #[.int .i64 lo, .int .i64 pa, .int .i64 no, .slice qb qn qd, .slice nb nn nd, .slice tb tn td, .slice lb ln ld, .slice hb hn hd] 54))
  have X1 := hid ((Blk.alloc w #[.int .i64 lo, .int .i64 pa, .int .i64 no, .slice qa qn qc, .slice na nn nc, .slice ta tn tc, .slice la ln lc, .slice ha hn hc] (54)).below ((Below.refl _ _).alloc (Nat.le_refl _) (.cells #[.int .i64 lo, .int .i64 pa, .int .i64 no, .slice qb qn qd, .slice nb nn nd, .slice tb tn td, .slice lb ln ld, .slice hb hn hd] 54)))
  have X2 := hid (Blk.alloc (w.alloc (.cells #[.int .i64 lo, .int .i64 pa, .int .i64 no, .slice qa qn qc, .slice na nn nc, .slice ta tn tc, .slice la ln lc, .slice ha hn hc] 54)) #[.int .i64 lo, .int .i64 pa, .int .i64 no, .slice qb qn qd, .slice nb nn nd, .slice tb tn td, .slice lb ln ld, .slice hb hn hd] (54))
  have zs : (w.alloc (.cells #[.int .i64 lo, .int .i64 pa, .int .i64 no, .slice qa qn qc, .slice na nn nc, .slice ta tn tc, .slice la ln lc, .slice ha hn hc] 54)).heap.size = w.heap.size + 1 := by simp
  rw [zs] at X2
  clear zs
  generalize ((w.alloc (.cells #[.int .i64 lo, .int .i64 pa, .int .i64 no, .slice qa qn qc, .slice na nn nc, .slice ta tn tc, .slice la ln lc, .slice ha hn hc] 54)).alloc (.cells #[.int .i64 lo, .int .i64 pa, .int .i64 no, .slice qb qn qd, .slice nb nn nd, .slice tb tn td, .slice lb ln ld, .slice hb hn hd] 54)) = W0 at *
  have y0 := X1.out.boxE 0 (.int .i64 lo) rfl
  have z0 := X2.out.boxE 0 (.int .i64 lo) rfl
  have y1 := X1.out.boxE 1 (.int .i64 pa) rfl
  have z1 := X2.out.boxE 1 (.int .i64 pa) rfl
  have y2 := X1.out.boxE 2 (.int .i64 no) rfl
  have z2 := X2.out.boxE 2 (.int .i64 no) rfl
  have y3 := X1.out.boxE 3 (.slice qa qn qc) rfl
  have z3 := X2.out.boxE 3 (.slice qb qn qd) rfl
  have y4 := X1.out.boxE 4 (.slice na nn nc) rfl
  have z4 := X2.out.boxE 4 (.slice nb nn nd) rfl
  have y5 := X1.out.boxE 5 (.slice ta tn tc) rfl
  have z5 := X2.out.boxE 5 (.slice tb tn td) rfl
  have y6 := X1.out.boxE 6 (.slice la ln lc) rfl
  have z6 := X2.out.boxE 6 (.slice lb ln ld) rfl
  have y7 := X1.out.boxE 7 (.slice ha hn hc) rfl
  have z7 := X2.out.boxE 7 (.slice hb hn hd) rfl
  go_wp2_with fail
  clear y0 z0 y1 z1 y2 z2 y3 z3 y4 z4 y5 z5 y6 z6 y7 z7
  have y4 := X1.out.boxE 4 (.slice na nn nc) rfl
  have z4 := X2.out.boxE 4 (.slice nb nn nd) rfl
  go_loopw [57] (fun i wr => ∃ k : Nat, k ≤ nn ∧ i = .int .i64 (k : Int) ∧ Hid (Below W0.heap.size W0 wr)) (fun i _ => nn - (intOf i).toNat)
  case atStart => exact ⟨0, by omega, rfl, Below.refl _ _⟩
  case round =>
    obtain ⟨k, hk, rfl, KR⟩ := hrel
    have BR := hid (B0.out.trans (KR.out.mono B0.out.size))
    have XX1 := hid (X1.out.below KR.out)
    have XX2 := hid (X2.out.below KR.out)
    by_cases hlt : k < nn
    · have hl1 : k < ns.length := by rw [HNN1.out]; exact hlt
      have hl2 : k < ns.length := by rw [HNN2.out]; exact hlt
      obtain ⟨b1, o1, e1, _, RI1⟩ := RAN1.out (by omega)
      obtain ⟨b2, o2, e2, _, RI2⟩ := RAN2.out (by omega)
      subst e1 e2
      have G1 := hid (rangeAt_below (RI1 k ns[k] (List.getElem?_eq_getElem hl1)) BR.out)
      have G2 := hid (rangeAt_below (RI2 k ns[k] (List.getElem?_eq_getElem hl2)) BR.out)
      have ka : (0 : Int) ≤ (k : Int) := by omega
      have kb : (k : Int) < (nn : Int) := by omega
      clear RI1 RI2
      have NE := neq_n5 ns[k]
      generalize ns[k] = X at *
      go_upto_region 6 with fail
      have D1 : wr.drew.cell? ⟨w.heap.size, 4, none⟩ = some (.slice (some ⟨b1, o1, none⟩) nn nc) := XX1.out.boxE 4 (.slice (some ⟨b1, o1, none⟩) nn nc) rfl
      have D2 : wr.drew.cell? ⟨w.heap.size + 1, 4, none⟩ = some (.slice (some ⟨b2, o2, none⟩) nn nd) := XX2.out.boxE 4 (.slice (some ⟨b2, o2, none⟩) nn nd) rfl
      refine wp_region_held_drew (S := fun W => W.cell? ⟨w.heap.size, 4, none⟩ = some (.slice (some ⟨b1, o1, none⟩) nn nc) ∧ W.cell? ⟨w.heap.size + 1, 4, none⟩ = some (.slice (some ⟨b2, o2, none⟩) nn nd) ∧ W.rangeAt b1 (o1 + k * 5) X.cs ∧ W.rangeAt b2 (o2 + k * 5) X.cs) (by kernel_rfl) ⟨D1, D2, G1.out, G2.out⟩ (fun hHeld => ?_)
      refine wpAnyH_take (i := 0) (v := .pointer (some ⟨w.heap.size, 4, none⟩)) rfl (by kernel_rfl) (by kernel_rfl) (by kernel_rfl) (fun _ _ _ h => h) (Or.inl ⟨by rfl, ?_⟩) (by assumption) ?_
      · (intro w hSw; (try dsimp only at hSw); obtain ⟨s1, s2, _, _⟩ := hSw; go_simp)
      (try simp only [Act.put, List.getElem_toArray, List.getElem_cons_succ, List.getElem_cons_zero, List.setIfInBounds_toArray, List.set_cons_zero, List.set_cons_succ])
      refine wpAnyH_take (i := 1) (v := .slice (some ⟨b1, o1, none⟩) nn nc) rfl (by kernel_rfl) (by kernel_rfl) (by kernel_rfl) (fun _ _ _ h => h) (Or.inl ⟨by rfl, ?_⟩) (by assumption) ?_
      · (intro w hSw; (try dsimp only at hSw); obtain ⟨s1, s2, _, _⟩ := hSw; go_simp)
      (try simp only [Act.put, List.getElem_toArray, List.getElem_cons_succ, List.getElem_cons_zero, List.setIfInBounds_toArray, List.set_cons_zero, List.set_cons_succ])
      refine wpAnyH_take (i := 2) (v := .int .i64 (k : Int)) rfl (by kernel_rfl) (by kernel_rfl) (by kernel_rfl) (fun _ _ _ h => h) (Or.inl ⟨by rfl, ?_⟩) (by assumption) ?_
      · (intro w hSw; (try dsimp only at hSw); obtain ⟨s1, s2, _, _⟩ := hSw; go_simp)
      (try simp only [Act.put, List.getElem_toArray, List.getElem_cons_succ, List.getElem_cons_zero, List.setIfInBounds_toArray, List.set_cons_zero, List.set_cons_succ])
      refine wpAnyH_take (i := 3) (v := .pointer (some ⟨b1, o1 + k * 5, none⟩)) rfl (by kernel_rfl) (by kernel_rfl) (by kernel_rfl) (fun _ _ _ h => h) (Or.inl ⟨by rfl, ?_⟩) (by assumption) ?_
      · (intro w hSw; (try dsimp only at hSw); obtain ⟨s1, s2, _, _⟩ := hSw; go_simp)
      (try simp only [Act.put, List.getElem_toArray, List.getElem_cons_succ, List.getElem_cons_zero, List.setIfInBounds_toArray, List.set_cons_zero, List.set_cons_succ])
      refine wpAnyH_take (i := 4) (v := .agg (X.cs).toArray) rfl (by kernel_rfl) (by kernel_rfl) (by kernel_rfl) (fun _ _ _ h => h) (yieldsIf_load_mid (by rfl) 27 (.tmp 63) rfl b1 (o1 + k * 5) rfl (X.cs) _ (fun W hW => hW.2.2.1) Try.underlying27 rfl sizeNod) (by assumption) ?_
      (try simp only [Act.put, List.getElem_toArray, List.getElem_cons_succ, List.getElem_cons_zero, List.setIfInBounds_toArray, List.set_cons_zero, List.set_cons_succ])
      refine wpAnyH_take (i := 5) (v := .pointer (some ⟨w.heap.size + 1, 4, none⟩)) rfl (by kernel_rfl) (by kernel_rfl) (by kernel_rfl) (fun _ _ _ h => h) (Or.inl ⟨by rfl, ?_⟩) (by assumption) ?_
      · (intro w hSw; (try dsimp only at hSw); obtain ⟨s1, s2, _, _⟩ := hSw; go_simp)
      (try simp only [Act.put, List.getElem_toArray, List.getElem_cons_succ, List.getElem_cons_zero, List.setIfInBounds_toArray, List.set_cons_zero, List.set_cons_succ])
      refine wpAnyH_take (i := 6) (v := .slice (some ⟨b2, o2, none⟩) nn nd) rfl (by kernel_rfl) (by kernel_rfl) (by kernel_rfl) (fun _ _ _ h => h) (Or.inl ⟨by rfl, ?_⟩) (by assumption) ?_
      · (intro w hSw; (try dsimp only at hSw); obtain ⟨s1, s2, _, _⟩ := hSw; go_simp)
      (try simp only [Act.put, List.getElem_toArray, List.getElem_cons_succ, List.getElem_cons_zero, List.setIfInBounds_toArray, List.set_cons_zero, List.set_cons_succ])
      refine wpAnyH_take (i := 7) (v := .int .i64 (k : Int)) rfl (by kernel_rfl) (by kernel_rfl) (by kernel_rfl) (fun _ _ _ h => h) (Or.inl ⟨by rfl, ?_⟩) (by assumption) ?_
      · (intro w hSw; (try dsimp only at hSw); obtain ⟨s1, s2, _, _⟩ := hSw; go_simp)
      (try simp only [Act.put, List.getElem_toArray, List.getElem_cons_succ, List.getElem_cons_zero, List.setIfInBounds_toArray, List.set_cons_zero, List.set_cons_succ])
      refine wpAnyH_take (i := 8) (v := .pointer (some ⟨b2, o2 + k * 5, none⟩)) rfl (by kernel_rfl) (by kernel_rfl) (by kernel_rfl) (fun _ _ _ h => h) (Or.inl ⟨by rfl, ?_⟩) (by assumption) ?_
      · (intro w hSw; (try dsimp only at hSw); obtain ⟨s1, s2, _, _⟩ := hSw; go_simp)
      (try simp only [Act.put, List.getElem_toArray, List.getElem_cons_succ, List.getElem_cons_zero, List.setIfInBounds_toArray, List.set_cons_zero, List.set_cons_succ])
      refine wpAnyH_take (i := 9) (v := .agg (X.cs).toArray) rfl (by kernel_rfl) (by kernel_rfl) (by kernel_rfl) (fun _ _ _ h => h) (yieldsIf_load_mid (by rfl) 27 (.tmp 68) rfl b2 (o2 + k * 5) rfl (X.cs) _ (fun W hW => hW.2.2.2) Try.underlying27 rfl sizeNod) (by assumption) ?_
      (try simp only [Act.put, List.getElem_toArray, List.getElem_cons_succ, List.getElem_cons_zero, List.setIfInBounds_toArray, List.set_cons_zero, List.set_cons_succ])
      refine wpAnyH_take (i := 10) (v := .bool false) rfl (by kernel_rfl) (by kernel_rfl) (by kernel_rfl) (fun _ _ _ h => h) (Or.inl ⟨by rfl, ?_⟩) (by assumption) ?_
      · (intro w hSw; (try dsimp only at hSw); obtain ⟨s1, s2, _, _⟩ := hSw; go_simp)
      (try simp only [Act.put, List.getElem_toArray, List.getElem_cons_succ, List.getElem_cons_zero, List.setIfInBounds_toArray, List.set_cons_zero, List.set_cons_succ])
      refine wpAnyH_done (by kernel_rfl) ?_ _
      clear hHeld D1 D2
      have KD := hid (KR.out.drew)
      clear NE G1 G2
      go_wp2_with fail
      refine ⟨⟨k + 1, by omega, by go_num, KD⟩, ?_⟩
      simp [intOf]; omega
    · obtain rfl : nn = k := by omega
      clear X1 X2
      have X1 := hid XX1.out
      have X2 := hid XX2.out
      clear XX1 XX2
      have y5 := X1.out.boxE 5 (.slice ta tn tc) rfl
      have z5 := X2.out.boxE 5 (.slice tb tn td) rfl
      have B0 := hid BR.out
      clear BR KR
      generalize wr = W0 at *
      go_wp2_with fail
      clear y5 z5
      go_loopw [75] (fun i wr => ∃ k : Nat, k ≤ tn ∧ i = .int .i64 (k : Int) ∧ Hid (Below W0.heap.size W0 wr)) (fun i _ => tn - (intOf i).toNat)
      case atStart => exact ⟨0, by omega, rfl, Below.refl _ _⟩
      case round =>
        obtain ⟨k, hk, rfl, KR⟩ := hrel
        have BR := hid (B0.out.trans (KR.out.mono B0.out.size))
        have XX1 := hid (X1.out.below KR.out)
        have XX2 := hid (X2.out.below KR.out)
        by_cases hlt : k < tn
        · have hl1 : k < ts.length := by rw [HNT1.out]; exact hlt
          have hl2 : k < ts'.length := by rw [HNT2.out]; exact hlt
          obtain ⟨b1, o1, e1, _, RI1⟩ := RAT1.out (by omega)
          obtain ⟨b2, o2, e2, _, RI2⟩ := RAT2.out (by omega)
          subst e1 e2
          have G1 := hid (rangeAt_below (RI1 k ts[k] (List.getElem?_eq_getElem hl1)) BR.out)
          have G2 := hid (rangeAt_below (RI2 k ts'[k] (List.getElem?_eq_getElem hl2)) BR.out)
          have ka : (0 : Int) ≤ (k : Int) := by omega
          have kb : (k : Int) < (tn : Int) := by omega
          clear RI1 RI2
          have CS := hid (CT.out k hl1 hl2)
          have HK1 : Hid (ts[k].cs.length = 7) := rfl
          have HK2 : Hid (ts'[k].cs.length = 7) := rfl
          generalize ts[k].cs = X at *
          generalize ts'[k].cs = Y at *
          have BD := hid (BR.out.drew)
          go_upto_region 12 with fail
          have D1 : wr.drew.cell? ⟨w.heap.size, 5, none⟩ = some (.slice (some ⟨b1, o1, none⟩) tn tc) := XX1.out.boxE 5 (.slice (some ⟨b1, o1, none⟩) tn tc) rfl
          have D2 : wr.drew.cell? ⟨w.heap.size + 1, 5, none⟩ = some (.slice (some ⟨b2, o2, none⟩) tn td) := XX2.out.boxE 5 (.slice (some ⟨b2, o2, none⟩) tn td) rfl
          refine wp_region_held_drew (S := fun W => W.cell? ⟨w.heap.size, 5, none⟩ = some (.slice (some ⟨b1, o1, none⟩) tn tc) ∧ W.cell? ⟨w.heap.size + 1, 5, none⟩ = some (.slice (some ⟨b2, o2, none⟩) tn td) ∧ W.rangeAt b1 (o1 + k * 7) X ∧ W.rangeAt b2 (o2 + k * 7) Y) (by kernel_rfl) ⟨D1, D2, G1.out, G2.out⟩ (fun hHeld => ?_)
          refine wpAnyH_take (i := 0) (v := .pointer (some ⟨w.heap.size, 5, none⟩)) rfl (by kernel_rfl) (by kernel_rfl) (by kernel_rfl) (fun _ _ _ h => h) (Or.inl ⟨by rfl, ?_⟩) (by assumption) ?_
          · (intro w hSw; (try dsimp only at hSw); obtain ⟨s1, s2, _, _⟩ := hSw; go_simp)
          (try simp only [Act.put, List.getElem_toArray, List.getElem_cons_succ, List.getElem_cons_zero, List.setIfInBounds_toArray, List.set_cons_zero, List.set_cons_succ])
          refine wpAnyH_take (i := 1) (v := .slice (some ⟨b1, o1, none⟩) tn tc) rfl (by kernel_rfl) (by kernel_rfl) (by kernel_rfl) (fun _ _ _ h => h) (Or.inl ⟨by rfl, ?_⟩) (by assumption) ?_
          · (intro w hSw; (try dsimp only at hSw); obtain ⟨s1, s2, _, _⟩ := hSw; go_simp)
          (try simp only [Act.put, List.getElem_toArray, List.getElem_cons_succ, List.getElem_cons_zero, List.setIfInBounds_toArray, List.set_cons_zero, List.set_cons_succ])
          refine wpAnyH_take (i := 2) (v := .int .i64 (k : Int)) rfl (by kernel_rfl) (by kernel_rfl) (by kernel_rfl) (fun _ _ _ h => h) (Or.inl ⟨by rfl, ?_⟩) (by assumption) ?_
          · (intro w hSw; (try dsimp only at hSw); obtain ⟨s1, s2, _, _⟩ := hSw; go_simp)
          (try simp only [Act.put, List.getElem_toArray, List.getElem_cons_succ, List.getElem_cons_zero, List.setIfInBounds_toArray, List.set_cons_zero, List.set_cons_succ])
          refine wpAnyH_take (i := 3) (v := .pointer (some ⟨b1, o1 + k * 7, none⟩)) rfl (by kernel_rfl) (by kernel_rfl) (by kernel_rfl) (fun _ _ _ h => h) (Or.inl ⟨by rfl, ?_⟩) (by assumption) ?_
          · (intro w hSw; (try dsimp only at hSw); obtain ⟨s1, s2, _, _⟩ := hSw; go_simp)
          (try simp only [Act.put, List.getElem_toArray, List.getElem_cons_succ, List.getElem_cons_zero, List.setIfInBounds_toArray, List.set_cons_zero, List.set_cons_succ])
          refine wpAnyH_take (i := 4) (v := .agg (X).toArray) rfl (by kernel_rfl) (by kernel_rfl) (by kernel_rfl) (fun _ _ _ h => h) (yieldsIf_load_mid (by rfl) 30 (.tmp 81) rfl b1 (o1 + k * 7) rfl (X) _ (fun W hW => hW.2.2.1) Try.underlying30 rfl (by rw [HK1.out]; exact sizeTask)) (by assumption) ?_
          (try simp only [Act.put, List.getElem_toArray, List.getElem_cons_succ, List.getElem_cons_zero, List.setIfInBounds_toArray, List.set_cons_zero, List.set_cons_succ])
          refine wpAnyH_take (i := 5) (v := .pointer (some ⟨w.heap.size + 1, 5, none⟩)) rfl (by kernel_rfl) (by kernel_rfl) (by kernel_rfl) (fun _ _ _ h => h) (Or.inl ⟨by rfl, ?_⟩) (by assumption) ?_
          · (intro w hSw; (try dsimp only at hSw); obtain ⟨s1, s2, _, _⟩ := hSw; go_simp)
          (try simp only [Act.put, List.getElem_toArray, List.getElem_cons_succ, List.getElem_cons_zero, List.setIfInBounds_toArray, List.set_cons_zero, List.set_cons_succ])
          refine wpAnyH_take (i := 6) (v := .slice (some ⟨b2, o2, none⟩) tn td) rfl (by kernel_rfl) (by kernel_rfl) (by kernel_rfl) (fun _ _ _ h => h) (Or.inl ⟨by rfl, ?_⟩) (by assumption) ?_
          · (intro w hSw; (try dsimp only at hSw); obtain ⟨s1, s2, _, _⟩ := hSw; go_simp)
          (try simp only [Act.put, List.getElem_toArray, List.getElem_cons_succ, List.getElem_cons_zero, List.setIfInBounds_toArray, List.set_cons_zero, List.set_cons_succ])
          refine wpAnyH_take (i := 7) (v := .int .i64 (k : Int)) rfl (by kernel_rfl) (by kernel_rfl) (by kernel_rfl) (fun _ _ _ h => h) (Or.inl ⟨by rfl, ?_⟩) (by assumption) ?_
          · (intro w hSw; (try dsimp only at hSw); obtain ⟨s1, s2, _, _⟩ := hSw; go_simp)
          (try simp only [Act.put, List.getElem_toArray, List.getElem_cons_succ, List.getElem_cons_zero, List.setIfInBounds_toArray, List.set_cons_zero, List.set_cons_succ])
          refine wpAnyH_take (i := 8) (v := .pointer (some ⟨b2, o2 + k * 7, none⟩)) rfl (by kernel_rfl) (by kernel_rfl) (by kernel_rfl) (fun _ _ _ h => h) (Or.inl ⟨by rfl, ?_⟩) (by assumption) ?_
          · (intro w hSw; (try dsimp only at hSw); obtain ⟨s1, s2, _, _⟩ := hSw; go_simp)
          (try simp only [Act.put, List.getElem_toArray, List.getElem_cons_succ, List.getElem_cons_zero, List.setIfInBounds_toArray, List.set_cons_zero, List.set_cons_succ])
          refine wpAnyH_take (i := 9) (v := .agg (Y).toArray) rfl (by kernel_rfl) (by kernel_rfl) (by kernel_rfl) (fun _ _ _ h => h) (yieldsIf_load_mid (by rfl) 30 (.tmp 86) rfl b2 (o2 + k * 7) rfl (Y) _ (fun W hW => hW.2.2.2) Try.underlying30 rfl (by rw [HK2.out]; exact sizeTask)) (by assumption) ?_
          (try simp only [Act.put, List.getElem_toArray, List.getElem_cons_succ, List.getElem_cons_zero, List.setIfInBounds_toArray, List.set_cons_zero, List.set_cons_succ])
          refine wpAnyH_ready (rs := [10]) (by kernel_rfl) (by simp) ?_
          refine AllReadyH.cons rfl (fun K hK => ?_) AllReadyH.nil
          go_simp
          with_reducible refine (CS.out _ BD.out).mono ?_
          rintro e W2 ⟨rfl, bx⟩
          have KE := hid ((KR.out.drew).trans (bx.mono KR.out.size))
          refine hK.out _ _ ⟨keepc bx D1, keepc bx D2, rangeAt_below (rangeAt_drew G1.out) bx, rangeAt_below (rangeAt_drew G2.out) bx⟩ (fun hHeld => ?_)
          clear hK K bx CS
          (try simp only [Act.put, List.getElem_toArray, List.getElem_cons_succ, List.getElem_cons_zero, List.setIfInBounds_toArray, List.set_cons_zero, List.set_cons_succ])
          refine wpAnyH_take (i := 11) (v := .bool false) rfl (by kernel_rfl) (by kernel_rfl) (by kernel_rfl) (fun _ _ _ h => h) (Or.inl ⟨by rfl, ?_⟩) (by assumption) ?_
          · (intro w hSw; (try dsimp only at hSw); obtain ⟨s1, s2, _, _⟩ := hSw; go_simp)
          (try simp only [Act.put, List.getElem_toArray, List.getElem_cons_succ, List.getElem_cons_zero, List.setIfInBounds_toArray, List.set_cons_zero, List.set_cons_succ])
          refine wpAnyH_done (by kernel_rfl) ?_ _
          clear hHeld G1 G2 BD D1 D2
          go_wp2_with fail
          refine ⟨⟨k + 1, by omega, by go_num, KE⟩, ?_⟩
          simp [intOf]; omega
        · obtain rfl : tn = k := by omega
          clear X1 X2
          have X1 := hid XX1.out
          have X2 := hid XX2.out
          clear XX1 XX2
          have y7 := X1.out.boxE 7 (.slice ha hn hc) rfl
          have z7 := X2.out.boxE 7 (.slice hb hn hd) rfl
          have B0 := hid BR.out
          clear BR KR
          generalize wr = W0 at *
          go_wp2_with fail
          clear y7 z7
          go_loopw [94] (fun i wr => ∃ k : Nat, k ≤ hn ∧ i = .int .i64 (k : Int) ∧ Hid (Below W0.heap.size W0 wr)) (fun i _ => hn - (intOf i).toNat)
          case atStart => exact ⟨0, by omega, rfl, Below.refl _ _⟩
          case round =>
            obtain ⟨k, hk, rfl, KR⟩ := hrel
            have BR := hid (B0.out.trans (KR.out.mono B0.out.size))
            have XX1 := hid (X1.out.below KR.out)
            have XX2 := hid (X2.out.below KR.out)
            by_cases hlt : k < hn
            · have hl1 : k < hs.length := by rw [HNH1.out]; exact hlt
              have hl2 : k < hs.length := by rw [HNH2.out]; exact hlt
              obtain ⟨b1, o1, e1, _, RI1⟩ := RAH1.out (by omega)
              obtain ⟨b2, o2, e2, _, RI2⟩ := RAH2.out (by omega)
              subst e1 e2
              have G1 := hid (rangeAt_below (RI1 k hs[k] (List.getElem?_eq_getElem hl1)) BR.out)
              have G2 := hid (rangeAt_below (RI2 k hs[k] (List.getElem?_eq_getElem hl2)) BR.out)
              have ka : (0 : Int) ≤ (k : Int) := by omega
              have kb : (k : Int) < (hn : Int) := by omega
              clear RI1 RI2
              have NE := neq_h2 hs[k]
              generalize hs[k] = X at *
              go_upto_region 18 with fail
              have D1 : wr.drew.cell? ⟨w.heap.size, 7, none⟩ = some (.slice (some ⟨b1, o1, none⟩) hn hc) := XX1.out.boxE 7 (.slice (some ⟨b1, o1, none⟩) hn hc) rfl
              have D2 : wr.drew.cell? ⟨w.heap.size + 1, 7, none⟩ = some (.slice (some ⟨b2, o2, none⟩) hn hd) := XX2.out.boxE 7 (.slice (some ⟨b2, o2, none⟩) hn hd) rfl
              refine wp_region_held_drew (S := fun W => W.cell? ⟨w.heap.size, 7, none⟩ = some (.slice (some ⟨b1, o1, none⟩) hn hc) ∧ W.cell? ⟨w.heap.size + 1, 7, none⟩ = some (.slice (some ⟨b2, o2, none⟩) hn hd) ∧ W.rangeAt b1 (o1 + k * 2) X.cs ∧ W.rangeAt b2 (o2 + k * 2) X.cs) (by kernel_rfl) ⟨D1, D2, G1.out, G2.out⟩ (fun hHeld => ?_)
              refine wpAnyH_take (i := 0) (v := .pointer (some ⟨w.heap.size, 7, none⟩)) rfl (by kernel_rfl) (by kernel_rfl) (by kernel_rfl) (fun _ _ _ h => h) (Or.inl ⟨by rfl, ?_⟩) (by assumption) ?_
              · (intro w hSw; (try dsimp only at hSw); obtain ⟨s1, s2, _, _⟩ := hSw; go_simp)
              (try simp only [Act.put, List.getElem_toArray, List.getElem_cons_succ, List.getElem_cons_zero, List.setIfInBounds_toArray, List.set_cons_zero, List.set_cons_succ])
              refine wpAnyH_take (i := 1) (v := .slice (some ⟨b1, o1, none⟩) hn hc) rfl (by kernel_rfl) (by kernel_rfl) (by kernel_rfl) (fun _ _ _ h => h) (Or.inl ⟨by rfl, ?_⟩) (by assumption) ?_
              · (intro w hSw; (try dsimp only at hSw); obtain ⟨s1, s2, _, _⟩ := hSw; go_simp)
              (try simp only [Act.put, List.getElem_toArray, List.getElem_cons_succ, List.getElem_cons_zero, List.setIfInBounds_toArray, List.set_cons_zero, List.set_cons_succ])
              refine wpAnyH_take (i := 2) (v := .int .i64 (k : Int)) rfl (by kernel_rfl) (by kernel_rfl) (by kernel_rfl) (fun _ _ _ h => h) (Or.inl ⟨by rfl, ?_⟩) (by assumption) ?_
              · (intro w hSw; (try dsimp only at hSw); obtain ⟨s1, s2, _, _⟩ := hSw; go_simp)
              (try simp only [Act.put, List.getElem_toArray, List.getElem_cons_succ, List.getElem_cons_zero, List.setIfInBounds_toArray, List.set_cons_zero, List.set_cons_succ])
              refine wpAnyH_take (i := 3) (v := .pointer (some ⟨b1, o1 + k * 2, none⟩)) rfl (by kernel_rfl) (by kernel_rfl) (by kernel_rfl) (fun _ _ _ h => h) (Or.inl ⟨by rfl, ?_⟩) (by assumption) ?_
              · (intro w hSw; (try dsimp only at hSw); obtain ⟨s1, s2, _, _⟩ := hSw; go_simp)
              (try simp only [Act.put, List.getElem_toArray, List.getElem_cons_succ, List.getElem_cons_zero, List.setIfInBounds_toArray, List.set_cons_zero, List.set_cons_succ])
              refine wpAnyH_take (i := 4) (v := .agg (X.cs).toArray) rfl (by kernel_rfl) (by kernel_rfl) (by kernel_rfl) (fun _ _ _ h => h) (yieldsIf_load_mid (by rfl) 94 (.tmp 100) rfl b1 (o1 + k * 2) rfl (X.cs) _ (fun W hW => hW.2.2.1) Try.underlying94 rfl sizeHun) (by assumption) ?_
              (try simp only [Act.put, List.getElem_toArray, List.getElem_cons_succ, List.getElem_cons_zero, List.setIfInBounds_toArray, List.set_cons_zero, List.set_cons_succ])
              refine wpAnyH_take (i := 5) (v := .pointer (some ⟨w.heap.size + 1, 7, none⟩)) rfl (by kernel_rfl) (by kernel_rfl) (by kernel_rfl) (fun _ _ _ h => h) (Or.inl ⟨by rfl, ?_⟩) (by assumption) ?_
              · (intro w hSw; (try dsimp only at hSw); obtain ⟨s1, s2, _, _⟩ := hSw; go_simp)
              (try simp only [Act.put, List.getElem_toArray, List.getElem_cons_succ, List.getElem_cons_zero, List.setIfInBounds_toArray, List.set_cons_zero, List.set_cons_succ])
              refine wpAnyH_take (i := 6) (v := .slice (some ⟨b2, o2, none⟩) hn hd) rfl (by kernel_rfl) (by kernel_rfl) (by kernel_rfl) (fun _ _ _ h => h) (Or.inl ⟨by rfl, ?_⟩) (by assumption) ?_
              · (intro w hSw; (try dsimp only at hSw); obtain ⟨s1, s2, _, _⟩ := hSw; go_simp)
              (try simp only [Act.put, List.getElem_toArray, List.getElem_cons_succ, List.getElem_cons_zero, List.setIfInBounds_toArray, List.set_cons_zero, List.set_cons_succ])
              refine wpAnyH_take (i := 7) (v := .int .i64 (k : Int)) rfl (by kernel_rfl) (by kernel_rfl) (by kernel_rfl) (fun _ _ _ h => h) (Or.inl ⟨by rfl, ?_⟩) (by assumption) ?_
              · (intro w hSw; (try dsimp only at hSw); obtain ⟨s1, s2, _, _⟩ := hSw; go_simp)
              (try simp only [Act.put, List.getElem_toArray, List.getElem_cons_succ, List.getElem_cons_zero, List.setIfInBounds_toArray, List.set_cons_zero, List.set_cons_succ])
              refine wpAnyH_take (i := 8) (v := .pointer (some ⟨b2, o2 + k * 2, none⟩)) rfl (by kernel_rfl) (by kernel_rfl) (by kernel_rfl) (fun _ _ _ h => h) (Or.inl ⟨by rfl, ?_⟩) (by assumption) ?_
              · (intro w hSw; (try dsimp only at hSw); obtain ⟨s1, s2, _, _⟩ := hSw; go_simp)
              (try simp only [Act.put, List.getElem_toArray, List.getElem_cons_succ, List.getElem_cons_zero, List.setIfInBounds_toArray, List.set_cons_zero, List.set_cons_succ])
              refine wpAnyH_take (i := 9) (v := .agg (X.cs).toArray) rfl (by kernel_rfl) (by kernel_rfl) (by kernel_rfl) (fun _ _ _ h => h) (yieldsIf_load_mid (by rfl) 94 (.tmp 105) rfl b2 (o2 + k * 2) rfl (X.cs) _ (fun W hW => hW.2.2.2) Try.underlying94 rfl sizeHun) (by assumption) ?_
              (try simp only [Act.put, List.getElem_toArray, List.getElem_cons_succ, List.getElem_cons_zero, List.setIfInBounds_toArray, List.set_cons_zero, List.set_cons_succ])
              refine wpAnyH_take (i := 10) (v := .bool false) rfl (by kernel_rfl) (by kernel_rfl) (by kernel_rfl) (fun _ _ _ h => h) (Or.inl ⟨by rfl, ?_⟩) (by assumption) ?_
              · (intro w hSw; (try dsimp only at hSw); obtain ⟨s1, s2, _, _⟩ := hSw; go_simp)
              (try simp only [Act.put, List.getElem_toArray, List.getElem_cons_succ, List.getElem_cons_zero, List.setIfInBounds_toArray, List.set_cons_zero, List.set_cons_succ])
              refine wpAnyH_done (by kernel_rfl) ?_ _
              clear hHeld D1 D2
              have KD := hid (KR.out.drew)
              clear NE G1 G2
              go_wp2_with fail
              refine ⟨⟨k + 1, by omega, by go_num, KD⟩, ?_⟩
              simp [intOf]; omega
            · obtain rfl : hn = k := by omega
              clear X1 X2
              have X1 := hid XX1.out
              have X2 := hid XX2.out
              clear XX1 XX2
              have y3 := X1.out.boxE 3 (.slice qa qn qc) rfl
              have z3 := X2.out.boxE 3 (.slice qb qn qd) rfl
              have y6 := X1.out.boxE 6 (.slice la ln lc) rfl
              have z6 := X2.out.boxE 6 (.slice lb ln ld) rfl
              have CQ1 := hid (CQ.out _ BR.out)
              go_wp2_with fail
              with_reducible refine CQ1.out.mono ?_
              clear y3 z3 y6 z6
              rintro e WQ ⟨rfl, bq⟩
              have BQ := hid (BR.out.trans (bq.mono BR.out.size))
              replace X1 := hid (X1.out.below bq)
              replace X2 := hid (X2.out.below bq)
              have CL1 := hid (CL.out _ BQ.out)
              have y6 := X1.out.boxE 6 (.slice la ln lc) rfl
              have z6 := X2.out.boxE 6 (.slice lb ln ld) rfl
              clear bq CQ1
              go_wp2_with fail
              with_reducible refine CL1.out.mono ?_
              clear y6 z6
              rintro e WL ⟨rfl, bl⟩
              have BL := hid (BQ.out.trans (bl.mono BQ.out.size))
              clear CL1 bl
              go_wp2_with fail
              go_ret
              exact ⟨rfl, BL.out⟩
end Go.Proofs.Ythkbddnkcljjpaa
