/-
  Contracts of queue: the leaves, yielded.
-/
import Derived.Test.YtglifgnaecbniaaQE
namespace Go.Proofs.Ytglifgnaecbniaa
open Go.RowKit Go.Deep Go.Maps Go.Shelf
set_option linter.unusedVariables false
attribute [local go_sem] Oper.semAt_some

def leafsTo (l : List Qu) (k : Nat) : List (Fin l.length) := (upF l k).filter (fun i => leafB l (qa l i.val).id)
def leafs (l : List Qu) : List (Fin l.length) := (List.finRange l.length).filter (fun i => leafB l (qa l i.val).id)
theorem leafsTo_all (l : List Qu) : leafsTo l l.length = leafs l := by unfold leafsTo leafs; rw [upF_all]
theorem leafsTo_yes {l : List Qu} {k : Nat} (h : k < l.length) (e : leafB l (qa l k).id = true) : leafsTo l (k + 1) = leafsTo l k ++ [⟨k, h⟩] := by
  unfold leafsTo; rw [upF_succ h, List.filter_append]; simp [e]
theorem leafsTo_no {l : List Qu} {k : Nat} (h : k < l.length) (e : leafB l (qa l k).id = false) : leafsTo l (k + 1) = leafsTo l k := by
  unfold leafsTo; rw [upF_succ h, List.filter_append]; simp [e]
theorem leafsTo_pre (l : List Qu) (k : Nat) : leafsTo l k <+: leafs l := (upF_pre l k).filter _
theorem leafsTo_lt {l : List Qu} {k : Nat} (h : k < l.length) (e : leafB l (qa l k).id = true) : (leafsTo l k).length < (leafs l).length := by
  have := (leafsTo_pre l (k + 1)).length_le
  rw [leafsTo_yes h e] at this
  simp at this
  omega

set_option maxHeartbeats 1000000 in
theorem leaves_mk (lb off len cap mb : Nat) (w : World) :
    Calls Try.prog 112 #[tv lb off len cap mb] w fun e w' => e = .returned (.func (.func 129) #[] #[.pointer (some ⟨w.heap.size, 0, none⟩)]) ∧ w.alloc (.cells #[.slice (some ⟨lb, off, none⟩) len cap, .map (some mb)] 76) = w' := by
  go_enter Try.func112, Try.ntmps112
  go_wp2
  go_ret
  exact ⟨rfl, rfl⟩

set_option maxRecDepth 100000 in
set_option maxHeartbeats 2000000 in
theorem leaves_stops (n : Nat) (hn : 2 ≤ n) (X N Bt lb off len cap mb : Nat) (l : List Qu) (w : World) (hT : Tree w lb off len cap mb l)
    (ct0 : w.cell? ⟨Bt, 0, none⟩ = some (.slice (some ⟨lb, off, none⟩) len cap)) (ct1 : w.cell? ⟨Bt, 1, none⟩ = some (.map (some mb)))
    (n1 : Bt < N) (n3 : lb < N) (n4 : mb < N) (x1 : Bt ≠ X) (x3 : lb ≠ X) (x4 : mb ≠ X) (hN : N ≤ w.heap.size) :
    SeqStopsK Fence.wide n Try.prog 129 #[.pointer (some ⟨Bt, 0, none⟩)] (encF l) (Kq X N) (fun xs => xs = leafs l) (fun pre => pre ≠ [] ∧ pre <+: leafs l) (leafs l).length w := fun lp J Jx W hW hJ hJx hY hj => by
  have hNW : N ≤ W.heap.size := Nat.le_trans hN hW.size
  have ct0' := (hW.cell (p := ⟨Bt, 0, none⟩) (by show Bt < _; omega)).trans ct0
  have ct1' := (hW.cell (p := ⟨Bt, 1, none⟩) (by show Bt < _; omega)).trans ct1
  have HT := hid (hT.below hW)
  clear hT ct0 ct1
  have CT0 := hid ct0'
  have CT1 := hid ct1'
  clear ct1'
  have hle := HT.out.hle
  have hcap := HT.out.hcap
  have h1n : 1 ≤ n := by omega
  refine callsIn_of_wp Try.func129 rfl trivial ?_ rfl
  simp only [Try.ntmps129, List.size_toArray, List.length_cons, List.length_nil, Nat.reduceAdd, Nat.reduceSub, Array.replicate_succ, Array.replicate_zero, List.push_toArray, List.append_toArray, List.nil_append, List.cons_append]
  gi_wp2
  gi_loopw [8] (fun i wr => ∃ k : Nat, k ≤ len ∧ i = .int .i64 k ∧ Hid (J (leafsTo l k) wr) ∧ Hid (Sm X N W wr)) (fun i _ => len - (intOf i).toNat)
  case atStart => exact ⟨0, by omega, rfl, hj, Sm.refl _ _ _⟩
  case round =>
    obtain ⟨k, hk, rfl, hJs, hS⟩ := hrel
    clear ct0'
    by_cases hlt : k < len
    · have hlt' : k < l.length := by rw [HT.out.hlen]; exact hlt
      have hT2 := HT.out.same (w' := wr) (hS.out.2 lb n3 x3) (hS.out.2 mb n4 x4)
      obtain ⟨c0, c1, c2, c3, c4, c5, c6⟩ := hT2.row.2 k hlt'
      have t0 := (hS.out.cell (o := 0) n1 x1).trans CT0.out
      have t1 := (hS.out.cell (o := 1) n1 x1).trans CT1.out
      have T2 := hid hT2
      clear hT2
      have hbt : Bt < wr.heap.size := by have := hS.out.1; omega
      have tt0 := fun o => keepc ((Below.refl _ wr).alloc (Nat.le_refl _) o) t0
      have tt1 := fun o => keepc ((Below.refl _ wr).alloc (Nat.le_refl _) o) t1
      have J2 : Hid (∀ o w', Below (wr.alloc o).heap.size (wr.alloc o) w' → J (leafsTo l k) w') := fun o w' h4 => hJ _ _ _ none (hJ _ _ _ none hJs.out (World.grownBy_alloc _ _ _) (fun r e => by cases e)) ⟨h4.os, h4.tape, h4.output, h4.size, fun k hk _ => h4.block k hk⟩ (fun r e => by cases e)
      have S2 : Hid (∀ o w', Below (wr.alloc o).heap.size (wr.alloc o) w' → Sm X N W w') := fun o w' h4 => (hS.out.alloc hNW o).below hNW h4
      cases hp : leafB l (qa l k).id
      · have K1 := hid (leafsTo_no hlt' hp)
        have HP := hid hp
        clear hp
        generalize qa l k = q at *
        obtain ⟨q1, q2, q3, q4, q5, q6, q7⟩ := q
        simp only at *
        have u0 := tt0 (.cells #[.int .i64 q1, .int .i64 q2, .int .i64 q3, .int .i64 q4, .int .i64 q5, .int .i64 q6, .int .i64 q7] 42)
        have u1 := tt1 (.cells #[.int .i64 q1, .int .i64 q2, .int .i64 q3, .int .i64 q4, .int .i64 q5, .int .i64 q6, .int .i64 q7] 42)
        clear tt0 tt1 t0 t1
        gi_wp2_with fail
        refine ⟨trivial, ?_⟩
        refine (callsIn_wide.2 (isLeaf_any lb off len cap mb l q1 _ (T2.out.below ((Below.refl _ _).alloc (Nat.le_refl _) _)))).mono ?_
        rintro e W4 ⟨rfl, h4⟩
        rw [HP.out]
        have S4 := hid (S2.out _ _ h4)
        have J4 := hid (J2.out _ _ h4)
        clear u0 u1 h4
        gi_wp2
        refine ⟨fun _ h => (by cases h), ?_⟩
        gi_wp2
        go_roundw
        case rel => exact ⟨k + 1, by omega, by go_num, by rw [K1.out]; exact J4.out, S4⟩
        case measure => simp [intOf]; omega
      · have K1 := hid (leafsTo_yes hlt' hp)
        have K2 := hid (leafsTo_lt hlt' hp)
        have K3 := hid (leafsTo_pre l (k + 1))
        have HP := hid hp
        clear hp
        generalize qa l k = q at *
        obtain ⟨q1, q2, q3, q4, q5, q6, q7⟩ := q
        simp only at *
        have u0 := tt0 (.cells #[.int .i64 q1, .int .i64 q2, .int .i64 q3, .int .i64 q4, .int .i64 q5, .int .i64 q6, .int .i64 q7] 42)
        have u1 := tt1 (.cells #[.int .i64 q1, .int .i64 q2, .int .i64 q3, .int .i64 q4, .int .i64 q5, .int .i64 q6, .int .i64 q7] 42)
        clear tt0 tt1 t0 t1
        gi_wp2_with fail
        refine ⟨trivial, ?_⟩
        refine (callsIn_wide.2 (isLeaf_any lb off len cap mb l q1 _ (T2.out.below ((Below.refl _ _).alloc (Nat.le_refl _) _)))).mono ?_
        rintro e W4 ⟨rfl, h4⟩
        rw [HP.out]
        have S4 := hid (S2.out _ _ h4)
        have J4 := hid (J2.out _ _ h4)
        clear u0 u1 h4
        obtain ⟨fn, tmps, assign, body, hy, hR⟩ := hY (leafsTo l k) ⟨k, hlt'⟩ W4 J4.out K2.out
        dsimp only [encF] at hy
        have HR := hid hR
        clear hR
        gi_wp2
        refine HR.out.mono ?_
        rintro e W3 (⟨rfl, hJ3, hk3⟩ | ⟨rfl, hx3⟩)
        · have S3 := hid (S4.out.kq hk3)
          have J3 := hid hJ3
          clear hJ3 hk3
          gi_wp2
          go_roundw
          case rel => exact ⟨k + 1, by omega, by go_num, by rw [K1.out]; exact J3.out, S3⟩
          case measure => simp [intOf]; omega
        · have X3 := hid hx3
          clear hx3
          gi_wp2
          refine bodyPost_ret (results_none rfl _ _ _) rfl ?_
          exact ⟨⟨_, rfl⟩, .inr ⟨_, ⟨by simp, by rw [← K1.out]; exact K3.out⟩, X3.out⟩⟩
    · have E : Hid (leafsTo l k = leafs l) := by have e : k = l.length := (by rw [HT.out.hlen]; omega)
                                                 unfold Hid; rw [e]; exact leafsTo_all l
      gi_wp2
      go_end0
      exact ⟨⟨_, rfl⟩, .inl ⟨_, E.out, hJs.out⟩⟩

end Go.Proofs.Ytglifgnaecbniaa
