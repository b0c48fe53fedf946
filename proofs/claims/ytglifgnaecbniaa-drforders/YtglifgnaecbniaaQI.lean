/-
  Contracts of queue: all below a queue, yielded.
-/
import Derived.Test.YtglifgnaecbniaaQH
namespace Go.Proofs.Ytglifgnaecbniaa
open Go.RowKit Go.Deep Go.Maps Go.Shelf
set_option linter.unusedVariables false
attribute [local go_sem] Oper.semAt_some

/-- A set of numbers in a map. -/
def SetM (w : World) (b n : Nat) (f : Int → Bool) : Prop := ∃ D : DataW Unit, w.ownsMap Try.prog 3 unitElem b n D ∧ ∀ id : Int, Maps.has D (.int .i64 id) = f id
theorem SetM.same {w w' : World} {b n : Nat} {f : Int → Bool} (h : SetM w b n f) (hb : w'.heap[b]? = w.heap[b]?) : SetM w' b n f := by
  obtain ⟨D, ⟨es, clock, h1, h2⟩, h3⟩ := h
  exact ⟨D, ⟨es, clock, hb.trans h1, h2⟩, h3⟩
theorem SetM.obj {w : World} {b n : Nat} {f : Int → Bool} (h : SetM w b n f) : ∃ o : Obj, w.heap[b]? = some o ∧ o.isWalk = true := by
  obtain ⟨D, ⟨es, clock, h1, h2⟩, h3⟩ := h
  exact ⟨_, h1, rfl⟩
theorem SetM.lt {w : World} {b n : Nat} {f : Int → Bool} (h : SetM w b n f) : b < w.heap.size := by
  obtain ⟨o, h, _⟩ := h.obj
  exact (Array.getElem?_eq_some_iff.1 h).1
theorem SetM.kw {w w' : World} {b n : Nat} {f : Int → Bool} (h : SetM w b n f) (hk : KeepsWalks w w') : SetM w' b n f := by
  obtain ⟨o, h1, h2⟩ := h.obj
  exact h.same ((hk.same b o h1 h2).trans h1.symm)
theorem SetM.alloc {w : World} {b n : Nat} {f : Int → Bool} (h : SetM w b n f) (o : Obj) : SetM (w.alloc o) b n f := h.same (Below.heap_alloc _ _ _ h.lt)
theorem zeroU (w : World) : (zeroValue 152).run Try.prog w = .ok (.agg #[]) w := by kernel_rfl
theorem SetM.look {w : World} {b n : Nat} {f : Int → Bool} {x : Int} (h : SetM w b n f) (hx : I64 x) : Sem.run Try.prog (Instr.lookup 153 (.map (some b)) (.int .i64 x) true) w = .ok (.tuple #[.agg #[], .bool (f x)]) w := by
  obtain ⟨D, hown, hD⟩ := h
  obtain ⟨v, ps, hrun, hv⟩ := hown.look_ok lawI Try.underlying153 (zeroU _) unitElem_mk (keyI hx)
  obtain ⟨rfl, _⟩ := unitElem_inv hv
  rw [hrun, hD]
theorem SetM.put {w : World} {b n : Nat} {f : Int → Bool} {x : Int} (h : SetM w b n f) (hx : I64 x) (hn : n < 1000) : ∃ w', Sem.run Try.prog (Instr.mapUpdate 153 (.map (some b)) (.int .i64 x) (.agg #[])) w = .ok () w' ∧ SetM w' b (n + 1) (fun y => f y || decide (y = x)) ∧ w.grownBy w' (some b) := by
  obtain ⟨D, hown, hD⟩ := h
  obtain ⟨w', hrun, h1, h2⟩ := hown.update lawI Try.underlying153 (by unfold maxLen; omega) (keyI hx) unitElem_mk
  refine ⟨w', hrun, ⟨_, h1, fun id => ?_⟩, h2⟩
  by_cases e : id = x
  · subst e
    rw [has_put_same hown.isMap (by trivial)]; simp
  · have hne : (Lit.int .i64 id) ≠ .int .i64 x := fun h => e (by injection h)
    rw [has_put_other hne, hD]; simp [e]
theorem setM_made (w : World) : SetM (w.alloc (.map #[] 0)) w.heap.size 0 (fun _ => false) := ⟨_, World.ownsMap_made _ _ _ _, fun id => by simp [Maps.has]⟩

/-- Those of the first k that stand below a place. -/
def downTo (l : List Qu) (P k : Nat) : List (Fin l.length) := (upF l k).filter (fun j => decide (P ∈ pth l j.val))
def downs (l : List Qu) (P : Nat) : List (Fin l.length) := (List.finRange l.length).filter (fun j => decide (P ∈ pth l j.val))
theorem downTo_all (l : List Qu) (P : Nat) : downTo l P l.length = downs l P := by unfold downTo downs; rw [upF_all]
theorem downTo_yes {l : List Qu} {P k : Nat} (h : k < l.length) (e : P ∈ pth l k) : downTo l P (k + 1) = downTo l P k ++ [⟨k, h⟩] := by
  unfold downTo; rw [upF_succ h, List.filter_append]; simp [e]
theorem downTo_no {l : List Qu} {P k : Nat} (h : k < l.length) (e : ¬ P ∈ pth l k) : downTo l P (k + 1) = downTo l P k := by
  unfold downTo; rw [upF_succ h, List.filter_append]; simp [e]
theorem downTo_pre (l : List Qu) (P k : Nat) : downTo l P k <+: downs l P := (upF_pre l k).filter _
theorem downTo_lt {l : List Qu} {P k : Nat} (h : k < l.length) (e : P ∈ pth l k) : (downTo l P k).length < (downs l P).length := by
  have := (downTo_pre l P (k + 1)).length_le
  rw [downTo_yes h e] at this
  simp at this
  omega
theorem downTo_nil {l : List Qu} {P : Nat} : ∀ k, k ≤ P → k ≤ l.length → downTo l P k = [] := by
  intro k
  induction k with
  | zero => intros; rfl
  | succ k ih =>
    intro h1 h2
    rw [downTo_no (by omega) (fun h => by have := pth_le k P h; omega)]
    exact ih (by omega) (by omega)
/-- What has been met, k queues on. -/
def metF (l : List Qu) (P k : Nat) (id : Int) : Bool := decide (pl l id < k) && decide (P ∈ pth l (pl l id))
theorem Form.pl_iff {l : List Qu} (h : Form l) {k : Nat} (hk : k < l.length) {id : Int} : Proofs.Ytglifgnaecbniaa.pl l id = k ↔ id = (qa l k).id := by
  constructor
  · intro e; rw [← e]; exact (pl_id (by omega)).symm
  · rintro rfl; exact h.pl hk
theorem metF_start {l : List Qu} (h : Form l) {P : Nat} (hP : P < l.length) : (fun y => false || decide (y = (qa l P).id)) = metF l P (P + 1) := by
  funext y
  simp only [Bool.false_or, metF]
  rw [Bool.eq_iff_iff]
  simp only [decide_eq_true_eq, Bool.and_eq_true]
  constructor
  · rintro rfl
    rw [h.pl hP]
    exact ⟨by omega, pth_self l P⟩
  · rintro ⟨h1, h2⟩
    have h3 := pth_le _ _ h2
    exact (h.pl_iff hP).1 (by omega)
theorem metF_yes {l : List Qu} (h : Form l) {P k : Nat} (hk : k < l.length) (e : P ∈ pth l k) : (fun y => metF l P k y || decide (y = (qa l k).id)) = metF l P (k + 1) := by
  funext y
  simp only [metF]
  rw [Bool.eq_iff_iff]
  simp only [decide_eq_true_eq, Bool.and_eq_true, Bool.or_eq_true]
  constructor
  · rintro (⟨h1, h2⟩ | rfl)
    · exact ⟨by omega, h2⟩
    · rw [h.pl hk]; exact ⟨by omega, e⟩
  · rintro ⟨h1, h2⟩
    by_cases h3 : pl l y = k
    · exact .inr ((h.pl_iff hk).1 h3)
    · exact .inl ⟨by omega, h2⟩
theorem metF_no {l : List Qu} (h : Form l) {P k : Nat} (hk : k < l.length) (e : ¬ P ∈ pth l k) : metF l P k = metF l P (k + 1) := by
  funext y
  simp only [metF]
  rw [Bool.eq_iff_iff]
  simp only [decide_eq_true_eq, Bool.and_eq_true]
  constructor
  · rintro ⟨h1, h2⟩; exact ⟨by omega, h2⟩
  · rintro ⟨h1, h2⟩
    refine ⟨?_, h2⟩
    rcases Nat.lt_or_ge (pl l y) k with h3 | h3
    · exact h3
    · have h4 : pl l y = k := by omega
      rw [h4] at h2; exact absurd h2 e
theorem metF_par {l : List Qu} (h : Form l) {P k : Nat} (hk : k < l.length) (hP : P < k) : metF l P k (qa l k).par = decide (P ∈ pth l k) := by
  have hu := h.up hk (by omega)
  unfold metF
  rw [pth_step hu]
  simp [hu]
  intro e; omega

set_option maxHeartbeats 1000000 in
theorem down_mk (lb off len cap mb : Nat) (id : Int) (w : World) :
    Calls Try.prog 80 #[tv lb off len cap mb, .int .i64 id] w fun e w' => e = .returned (.func (.func 103) #[] #[.pointer (some ⟨w.heap.size, 0, none⟩), .pointer (some ⟨w.heap.size + 1, 0, none⟩)]) ∧ (w.alloc (.cells #[.slice (some ⟨lb, off, none⟩) len cap, .map (some mb)] 76)).alloc (.cells #[.int .i64 id] 3) = w' := by
  go_enter Try.func80, Try.ntmps80
  go_wp2
  go_ret
  exact ⟨rfl, rfl⟩

set_option maxRecDepth 100000 in
set_option maxHeartbeats 4000000 in
theorem down_stops (n : Nat) (hn : 2 ≤ n) (X N Bt Bi lb off len cap mb : Nat) (l : List Qu) (id : Int) (w : World) (hT : Tree w lb off len cap mb l) (hid' : I64 id) (hi : pl l id < l.length)
    (ct0 : w.cell? ⟨Bt, 0, none⟩ = some (.slice (some ⟨lb, off, none⟩) len cap)) (ct1 : w.cell? ⟨Bt, 1, none⟩ = some (.map (some mb))) (ci : w.cell? ⟨Bi, 0, none⟩ = some (.int .i64 id))
    (n1 : Bt < N) (n2 : Bi < N) (n3 : lb < N) (n4 : mb < N) (x1 : Bt ≠ X) (x2 : Bi ≠ X) (x3 : lb ≠ X) (x4 : mb ≠ X) (hN : N ≤ w.heap.size) :
    SeqStopsK Fence.wide n Try.prog 103 #[.pointer (some ⟨Bt, 0, none⟩), .pointer (some ⟨Bi, 0, none⟩)] (encF l) (Kq X N) (fun xs => xs = downs l (pl l id)) (fun pre => pre ≠ [] ∧ pre <+: downs l (pl l id)) (downs l (pl l id)).length w := fun lp J Jx W hW hJ hJx hY hj => by
  have hNW : N ≤ W.heap.size := Nat.le_trans hN hW.size
  have ct0' := (hW.cell (p := ⟨Bt, 0, none⟩) (by show Bt < _; omega)).trans ct0
  have ct1' := (hW.cell (p := ⟨Bt, 1, none⟩) (by show Bt < _; omega)).trans ct1
  have ci' : W.cell? ⟨Bi, 0, none⟩ = some (.int .i64 id) := (hW.cell (p := ⟨Bi, 0, none⟩) (by show Bi < _; omega)).trans ci
  have HT := hid (hT.below hW)
  have HL := hid hT.hlen
  have hlen := hT.hlen
  have L0 := HT.out.map.get hid' (by rw [← hlen]; exact hi)
  clear hT ct0 ct1 ci
  have hle := HT.out.hle
  have hcap := HT.out.hcap
  have h1n : 1 ≤ n := by omega
  have e0 : Hid ((qa l (pl l id)).id = id) := pl_id hi
  generalize hP : pl l id = P at *
  clear hP
  have hP' : P < len := by omega
  clear hlen
  have CT0 := hid ct0'
  have CI := hid ci'
  have Y1 := downTo_yes hi (pth_self l P)
  rw [downTo_nil P (Nat.le_refl _) (by omega), List.nil_append] at Y1
  have HY1 := hid Y1
  have HPre := hid (downTo_pre l P (P + 1))
  rw [Y1] at HPre
  clear Y1
  have hpos : ([] : List (Fin l.length)).length < (downs l P).length := by have := HPre.out.length_le; simp at this ⊢; omega
  obtain ⟨fn, tmps, assign, body, hy, hR⟩ := hY [] ⟨P, hi⟩ W hj hpos
  dsimp only [encF] at hy
  have HR := hid hR
  clear hR hpos
  refine callsIn_of_wp Try.func103 rfl trivial ?_ rfl
  simp only [Try.ntmps103, List.size_toArray, List.length_cons, List.length_nil, Nat.reduceAdd, Nat.reduceSub, Array.replicate_succ, Array.replicate_zero, List.push_toArray, List.append_toArray, List.nil_append, List.cons_append]
  gi_wp2
  refine HR.out.mono ?_
  rintro e W3 (⟨rfl, hJ3, hk3⟩ | ⟨rfl, hx3⟩)
  · clear hy HR fn tmps assign body L0 ct0' ct1' ci'
    have S3 := hid ((Sm.refl X N W).kq hk3)
    have J3 := hid hJ3
    clear hJ3 hk3
    have hmm := @run_makeMap Try.prog
    have ci3 := (S3.out.cell (o := 0) n2 x2).trans CI.out
    have hbi : Bi < W3.heap.size := by have := S3.out.1; omega
    have ci4 := keepc ((Below.refl _ W3).alloc (Nat.le_refl _) (.map #[] 0)) ci3
    obtain ⟨w4, hrun4, hM4, hg4⟩ := (setM_made W3).put hid' (by omega)
    have J4 : Hid (J (downTo l P (P + 1)) w4) := by
      rw [HY1.out]
      refine hJ _ W3 w4 none J3.out ?_ (fun r e => by cases e)
      have hh := (World.grownBy_alloc W3 (.map #[] 0) none)
      exact ⟨hg4.os.trans hh.os, hg4.tape.trans hh.tape, hg4.output.trans hh.output, Nat.le_trans hh.size hg4.size, fun k hk _ => (hg4.block k (by simp; omega) (by simp; omega)).trans (hh.block k hk (by simp))⟩
    have S4 : Hid (Sm X N W w4) := ⟨by have := S3.out.1; have := hg4.size; simp at this; omega, fun b hb hx => by
      have h1 := S3.out.1
      exact ((hg4.block b (by simp; omega) (by simp; omega)).trans (Below.heap_alloc _ _ _ (by omega))).trans (S3.out.2 b hb hx)⟩
    have M4 : Hid (SetM w4 W3.heap.size 1 (metF l P (P + 1))) := by rw [← metF_start HT.out.form hi, e0.out]; exact hM4
    have SW3 := hid S3.out.1
    clear hM4 hg4 J3
    gi_wp2
    gi_loopw [6] (fun v wr => ∃ k : Nat, P < k ∧ k ≤ len ∧ v = .int .i64 k ∧ Hid (J (downTo l P k) wr) ∧ Hid (∃ m, m ≤ k ∧ SetM wr W3.heap.size m (metF l P k)) ∧ Hid (Sm X N W wr)) (fun v _ => len - (intOf v).toNat)
    case atStart => exact ⟨P + 1, by omega, by omega, by go_num, J4, ⟨1, by omega, M4.out⟩, S4⟩
    case round =>
      obtain ⟨k, hPk, hk, rfl, hJs, hM, hS⟩ := hrel
      clear hrun4 J4 S4 M4 ci3 ci4 S3
      have c0 := (hS.out.cell (o := 0) n1 x1).trans CT0.out
      by_cases hlt : k < len
      · have hlt' : k < l.length := by rw [HL.out]; exact hlt
        obtain ⟨b0, b1, b2, b3, b4, b5, b6⟩ := ((HT.out.row).same (w' := wr) (hS.out.2 lb n3 x3)).2 k hlt'
        have qok := qa_ok HT.out.ok k
        have kb : (k : Int) < (len : Int) := by omega
        have ka : (0 : Int) ≤ (k : Int) := by omega
        obtain ⟨m, hm, hM'⟩ := hM.out
        have L1 := fun o => (hM'.alloc o).look qok.2.1
        have MP := metF_par HT.out.form hlt' hPk
        rw [MP] at L1
        have PT := hid (fun o o' => ((hM'.alloc o).alloc o').put qok.1 (by omega))
        have JA : Hid (∀ o o', J (downTo l P k) ((wr.alloc o).alloc o')) := fun o o' => hJ _ _ _ none (hJ _ _ _ none hJs.out (World.grownBy_alloc _ _ _) (fun r e => by cases e)) (World.grownBy_alloc _ _ _) (fun r e => by cases e)
        have SA : Hid (∀ o o', Sm X N W ((wr.alloc o).alloc o')) := fun o o' => (hS.out.alloc hNW o).alloc hNW o'
        have HM := hid hM'
        clear hM' MP hM
        by_cases hp : P ∈ pth l k
        · have K1 := hid (downTo_yes hlt' hp)
          have K2 := hid (downTo_lt hlt' hp)
          have K3 := hid (downTo_pre l P (k + 1))
          have K4 := hid (metF_yes HT.out.form hlt' hp)
          have td : decide (P ∈ pth l k) = true := by simpa using hp
          rw [td] at L1
          clear td hp
          generalize qa l k = q at *
          obtain ⟨q1, q2, q3, q4, q5, q6, q7⟩ := q
          simp only at *
          have L2 := L1 (.cells #[.int .i64 q1, .int .i64 q2, .int .i64 q3, .int .i64 q4, .int .i64 q5, .int .i64 q6, .int .i64 q7] 42)
          clear L1
          obtain ⟨w5, hrun5, hM5, hg5⟩ := PT.out (.cells #[.int .i64 q1, .int .i64 q2, .int .i64 q3, .int .i64 q4, .int .i64 q5, .int .i64 q6, .int .i64 q7] 42) (.cells #[] 152)
          have J5 : J (downTo l P k) w5 := hJ _ _ _ _ (JA.out _ _) hg5 (fun r e => by cases e; exact ⟨SW3.out, ((HM.out.alloc _).alloc _).obj⟩)
          have S5 : Hid (Sm X N W w5) := by
            have h1 := SA.out (.cells #[.int .i64 q1, .int .i64 q2, .int .i64 q3, .int .i64 q4, .int .i64 q5, .int .i64 q6, .int .i64 q7] 42) (.cells #[] 152)
            exact ⟨Nat.le_trans h1.1 hg5.size, fun b hb hx => (hg5.block b (by have := h1.1; omega) (by have := SW3.out; simp; omega)).trans (h1.2 b hb hx)⟩
          obtain ⟨fn, tmps, assign, body, hy, hR⟩ := hY (downTo l P k) ⟨k, hlt'⟩ w5 J5 K2.out
          dsimp only [encF] at hy
          have HR := hid hR
          have HM5 := hid hM5
          clear hR hM5 hg5 J5 PT JA SA
          gi_wp2
          refine HR.out.mono ?_
          rintro e W6 (⟨rfl, hJ6, hk6⟩ | ⟨rfl, hx6⟩)
          · have S6 := hid (S5.out.kq hk6)
            have J6 := hid hJ6
            have M6 : Hid (∃ m, m ≤ k + 1 ∧ SetM W6 W3.heap.size m (metF l P (k + 1))) := ⟨m + 1, by omega, by rw [← K4.out]; exact HM5.out.kw hk6.1⟩
            clear hJ6 hk6
            gi_wp2
            go_roundw
            case rel => exact ⟨k + 1, by omega, by omega, by go_num, by rw [K1.out]; exact J6.out, M6, S6⟩
            case measure => simp [intOf]; omega
          · have X6 := hid hx6
            clear hx6
            gi_wp2
            refine bodyPost_ret (results_none rfl _ _ _) rfl ?_
            exact ⟨⟨_, rfl⟩, .inr ⟨_, ⟨by simp, by rw [← K1.out]; exact K3.out⟩, X6.out⟩⟩
        · have K1 := hid (downTo_no hlt' hp)
          have K4 := hid (metF_no HT.out.form hlt' hp)
          have td : decide (P ∈ pth l k) = false := by simpa using hp
          rw [td] at L1
          clear td hp PT
          generalize qa l k = q at *
          obtain ⟨q1, q2, q3, q4, q5, q6, q7⟩ := q
          simp only at *
          have L2 := L1 (.cells #[.int .i64 q1, .int .i64 q2, .int .i64 q3, .int .i64 q4, .int .i64 q5, .int .i64 q6, .int .i64 q7] 42)
          clear L1
          gi_wp2
          go_roundw
          case rel => exact ⟨k + 1, by omega, by omega, by go_num, by rw [K1.out]; exact JA.out _ _, ⟨m, by omega, by rw [← K4.out]; exact (HM.out.alloc _).alloc _⟩, SA.out _ _⟩
          case measure => simp [intOf]; omega
      · have E : Hid (downTo l P k = downs l P) := by have e : k = l.length := (by rw [HL.out]; omega)
                                                      unfold Hid; rw [e]; exact downTo_all l P
        gi_wp2
        go_end0
        exact ⟨⟨_, rfl⟩, .inl ⟨_, E.out, hJs.out⟩⟩
  · have X3 := hid hx3
    clear hx3
    gi_wp2
    refine bodyPost_ret (results_none rfl _ _ _) rfl ?_
    exact ⟨⟨_, rfl⟩, .inr ⟨_, ⟨by simp, HPre.out⟩, X3.out⟩⟩

end Go.Proofs.Ytglifgnaecbniaa
