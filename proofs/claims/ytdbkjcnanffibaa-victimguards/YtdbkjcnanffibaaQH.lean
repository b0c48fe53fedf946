/-
  Contracts of queue: a queue's path, yielded.
-/
import Derived.Test.YtdbkjcnanffibaaQG
namespace Go.Proofs.Ytdbkjcnanffibaa
open Go.RowKit Go.Deep Go.Maps Go.Shelf
set_option linter.unusedVariables false
attribute [local go_sem] Oper.semAt_some

/-- The places of a path. -/
def pthF (l : List Qu) (i : Nat) (h : i < l.length) : List (Fin l.length) := ⟨i, h⟩ :: (if h' : pl l (qa l i).par < i then pthF l (pl l (qa l i).par) (by omega) else [])
termination_by i
theorem pthF_root {l : List Qu} {i : Nat} (hi : i < l.length) (h : ¬ pl l (qa l i).par < i) : pthF l i hi = [⟨i, hi⟩] := by rw [pthF, dif_neg h]
theorem pthF_step {l : List Qu} {i : Nat} (hi : i < l.length) (h : pl l (qa l i).par < i) : pthF l i hi = ⟨i, hi⟩ :: pthF l (pl l (qa l i).par) (by omega) := by rw [pthF, dif_pos h]
theorem pthF_map {l : List Qu} : ∀ i (hi : i < l.length), (pthF l i hi).map (·.val) = pth l i := by
  intro i
  induction i using Nat.strongRecOn with
  | _ i ih =>
    intro hi
    by_cases h : pl l (qa l i).par < i
    · rw [pthF_step hi h, pth_step h, List.map_cons, ih _ h]
    · rw [pthF_root hi h, pth_root h]; rfl

set_option maxHeartbeats 1000000 in
theorem up_mk (lb off len cap mb : Nat) (id : Int) (w : World) :
    Calls Try.prog 46 #[tv lb off len cap mb, .int .i64 id] w fun e w' => e = .returned (.func (.func 59) #[] #[.pointer (some ⟨w.heap.size + 1, 0, none⟩), .pointer (some ⟨w.heap.size, 0, none⟩)]) ∧ (w.alloc (.cells #[.slice (some ⟨lb, off, none⟩) len cap, .map (some mb)] 73)).alloc (.cells #[.int .i64 id] 3) = w' := by
  go_enter Try.func46, Try.ntmps46
  go_wp2
  go_ret
  exact ⟨rfl, rfl⟩

set_option maxRecDepth 100000 in
set_option maxHeartbeats 2000000 in
theorem up_stops (n : Nat) (hn : 2 ≤ n) (X N Bt Bi lb off len cap mb : Nat) (l : List Qu) (id : Int) (w : World) (hT : Tree w lb off len cap mb l) (hi : pl l id < l.length)
    (ct0 : w.cell? ⟨Bt, 0, none⟩ = some (.slice (some ⟨lb, off, none⟩) len cap)) (ct1 : w.cell? ⟨Bt, 1, none⟩ = some (.map (some mb))) (ci : w.cell? ⟨Bi, 0, none⟩ = some (.int .i64 id))
    (n1 : Bt < N) (n2 : Bi < N) (n3 : lb < N) (n4 : mb < N) (x1 : Bt ≠ X) (x2 : Bi ≠ X) (x3 : lb ≠ X) (x4 : mb ≠ X) (hN : N ≤ w.heap.size) :
    SeqStopsK Fence.wide n Try.prog 59 #[.pointer (some ⟨Bi, 0, none⟩), .pointer (some ⟨Bt, 0, none⟩)] (encF l) (Kq X N) (fun xs => xs = pthF l (pl l id) hi) (fun pre => pre ≠ [] ∧ pre <+: pthF l (pl l id) hi) (pthF l (pl l id) hi).length w := fun lp J Jx W hW hJ hJx hY hj => by
  have hNW : N ≤ W.heap.size := Nat.le_trans hN hW.size
  have ct0' := hid ((hW.cell (p := ⟨Bt, 0, none⟩) (by show Bt < _; omega)).trans ct0)
  have ct1' := hid ((hW.cell (p := ⟨Bt, 1, none⟩) (by show Bt < _; omega)).trans ct1)
  have ci' : W.cell? ⟨Bi, 0, none⟩ = some (.int .i64 id) := (hW.cell (p := ⟨Bi, 0, none⟩) (by show Bi < _; omega)).trans ci
  have HT := hid (hT.below hW)
  have HL := hid hT.hlen
  have HI := hid hi
  clear hT ct0 ct1 ci
  have hle := HT.out.hle
  have hcap := HT.out.hcap
  have h1n : 1 ≤ n := by omega
  have e0 : Hid ((qa l (pl l id)).id = id) := pl_id hi
  generalize hP : pl l id = P at *
  clear hP
  refine callsIn_of_wp Try.func59 rfl trivial ?_ rfl
  simp only [Try.ntmps59, List.size_toArray, List.length_cons, List.length_nil, Nat.reduceAdd, Nat.reduceSub, Array.replicate_succ, Array.replicate_zero, List.push_toArray, List.append_toArray, List.nil_append, List.cons_append]
  gi_wp2
  gi_loopw [4] (fun v wr => ∃ pre : List (Fin l.length), ((∃ j, ∃ hj : j < l.length, v = .int .i64 (qa l j).id ∧ Hid (pre ++ pthF l j hj = pthF l P hi)) ∨ (v = .int .i64 (-1) ∧ Hid (pre = pthF l P hi))) ∧ Hid (J pre wr) ∧ Hid (Sm X N W wr)) (fun v _ => (intOf v + 1).toNat)
  case atStart => exact ⟨[], .inl ⟨P, hi, by rw [e0.out], by simp [Hid]⟩, hj, Sm.refl _ _ _⟩
  case round =>
    obtain ⟨pre, hv, hJs, hS⟩ := hrel
    clear ci'
    rcases hv with ⟨j, hj', rfl, hpre⟩ | ⟨rfl, hpre⟩
    · have hT2 := HT.out.same (w' := wr) (hS.out.2 lb n3 x3) (hS.out.2 mb n4 x4)
      have c0 := (hS.out.cell (o := 0) n1 x1).trans ct0'.out
      have c1 := (hS.out.cell (o := 1) n1 x1).trans ct1'.out
      have hok := qa_ok HT.out.ok j
      have hnn := HT.out.form.id_nonneg hj'
      have L := hT2.map.get hok.1 (by rw [HT.out.form.pl hj', ← HL.out]; exact hj')
      rw [HT.out.form.pl hj'] at L
      have tn : ((qa l j).id != -1) = true := by simp; omega
      have hlen : pre.length < (pthF l P hi).length := by rw [← hpre.out, pthF]; simp
      obtain ⟨fn, tmps, assign, body, hy, hR⟩ := hY pre ⟨j, hj'⟩ wr hJs.out hlen
      dsimp only [encF] at hy
      have HR := hid hR
      clear hR hT2
      have IO := hid hok.1
      have PJ := hid (HT.out.form.pl hj')
      have PN : Hid (pre ++ [⟨j, hj'⟩] <+: pthF l P hi) := by
        refine ⟨(pthF l j hj').tail, ?_⟩
        rw [← hpre.out, List.append_assoc]
        congr 1
        rw [pthF]; simp
      by_cases hz : j = 0
      · have rt := HT.out.form.root
        have PE : Hid (pre ++ [⟨j, hj'⟩] = pthF l P hi) := by
          rw [← hpre.out, pthF_root hj' (by subst hz; omega)]; rfl
        have par : Hid ((qa l j).par = -1) := by subst hz; exact rt.2
        have nn : Hid (-1 < (qa l j).id) := by unfold Hid; omega
        clear hpre hlen hJs rt hz
        generalize hq : (qa l j).id = q at *
        gi_wp2
        refine HR.out.mono ?_
        rintro e W3 (⟨rfl, hJ3, hk3⟩ | ⟨rfl, hx3⟩)
        · have S3 := hid (hS.out.kq hk3)
          have J3 := hid hJ3
          clear hJ3 hk3
          have d0 := (S3.out.cell (o := 0) n1 x1).trans ct0'.out
          have d1 := (S3.out.cell (o := 1) n1 x1).trans ct1'.out
          have hT3 := HT.out.same (w' := W3) (S3.out.2 lb n3 x3) (S3.out.2 mb n4 x4)
          clear c0 c1 L
          gi_wp2_with fail
          refine ⟨trivial, ?_⟩
          refine (callsIn_wide.2 (queue_any lb off len cap mb l q W3 hT3 IO.out (by rw [PJ.out, ← HL.out]; exact hj'))).mono ?_
          rintro e W4 ⟨rfl, h4⟩
          rw [PJ.out, qv, par.out]
          have hpf := run_par
          gi_wp2
          go_roundw
          case rel => exact ⟨pre ++ [⟨j, hj'⟩], .inr ⟨rfl, PE⟩, hJ _ _ _ none J3.out ⟨h4.os, h4.tape, h4.output, h4.size, fun k hk _ => h4.block k hk⟩ (fun r e => by cases e), S3.out.below hNW h4⟩
          case measure => have := nn.out; simp [intOf]; omega
        · have X3 := hid hx3
          clear hx3
          gi_wp2
          refine bodyPost_ret (results_none rfl _ _ _) rfl ?_
          exact ⟨⟨_, rfl⟩, .inr ⟨_, ⟨by simp, PN.out⟩, X3.out⟩⟩
      · have up := HT.out.form.up hj' hz
        have hpl : pl l (qa l j).par < l.length := by omega
        have PE : Hid ((pre ++ [⟨j, hj'⟩]) ++ pthF l (pl l (qa l j).par) hpl = pthF l P hi) := by
          rw [← hpre.out, pthF_step hj' up, List.append_assoc]; rfl
        have par : Hid ((qa l j).par = (qa l (pl l (qa l j).par)).id) := (pl_id hpl).symm
        have nn : Hid ((qa l j).par < (qa l j).id) := by unfold Hid; rw [par.out]; exact HT.out.form.rise up hj'
        have pn : Hid (0 ≤ (qa l j).par) := HT.out.form.par_nonneg hj' hz
        clear hpre hlen hJs
        generalize hq : (qa l j).id = q at *
        gi_wp2
        refine HR.out.mono ?_
        rintro e W3 (⟨rfl, hJ3, hk3⟩ | ⟨rfl, hx3⟩)
        · have S3 := hid (hS.out.kq hk3)
          have J3 := hid hJ3
          clear hJ3 hk3
          have d0 := (S3.out.cell (o := 0) n1 x1).trans ct0'.out
          have d1 := (S3.out.cell (o := 1) n1 x1).trans ct1'.out
          have hT3 := HT.out.same (w' := W3) (S3.out.2 lb n3 x3) (S3.out.2 mb n4 x4)
          clear c0 c1 L
          gi_wp2_with fail
          refine ⟨trivial, ?_⟩
          refine (callsIn_wide.2 (queue_any lb off len cap mb l q W3 hT3 IO.out (by rw [PJ.out, ← HL.out]; exact hj'))).mono ?_
          rintro e W4 ⟨rfl, h4⟩
          rw [PJ.out, qv]
          have hpf := run_par
          gi_wp2
          go_roundw
          case rel => exact ⟨pre ++ [⟨j, hj'⟩], .inl ⟨pl l (qa l j).par, hpl, by rw [← par.out], PE⟩, hJ _ _ _ none J3.out ⟨h4.os, h4.tape, h4.output, h4.size, fun k hk _ => h4.block k hk⟩ (fun r e => by cases e), S3.out.below hNW h4⟩
          case measure => have := nn.out; have := pn.out; simp [intOf]; omega
        · have X3 := hid hx3
          clear hx3
          gi_wp2
          refine bodyPost_ret (results_none rfl _ _ _) rfl ?_
          exact ⟨⟨_, rfl⟩, .inr ⟨_, ⟨by simp, PN.out⟩, X3.out⟩⟩
    · gi_wp2
      go_end0
      exact ⟨⟨_, rfl⟩, .inl ⟨_, hpre.out, hJs.out⟩⟩

end Go.Proofs.Ytdbkjcnanffibaa
