/-
  What a queue covers without one of its leases: mathematics.
  Law08's helpers: lists of uses compared, the place of a queue.
  Law08's victims: is all that is handed in of the form?
  Law08's leases that last.
  The document's answers of victim: Uses.
  Law08's covers and without.
  Law08's without.
-/
import Derived.Test.YtdbkjcnanffibaaMB
import Derived.Test.YtdbkjcnanffibaaQW
import Derived.Laws.StructEq
import Derived.Test.YtdbkjcnanffibaaMA
import Derived.Test.YtdbkjcnanffibaaRM
import Derived.BigQuiet
import Derived.Deep.QuietTactic
import Derived.Deep.Cut
namespace Go.Proofs.Ytdbkjcnanffibaa
open Go.RowKit Go.Deep Go.Maps Go.Shelf
set_option linter.unusedVariables false
set_option linter.unusedSimpArgs false

/-- What 'Uses' tells: nothing beside an error. -/
def uvL (m : List Le) : List Us := if useErr m = 0 then useV m else []
theorem uvL_yes {m : List Le} (h : useErr m = 0) : uvL m = useV m := by unfold uvL; rw [if_pos h]
/-- Does what a queue uses by leases cover its Min? -/
def covB (l : List Qu) (m : List Le) (id : Int) : Bool := decide (sumsE l (uvL m) = 0) && (hasQ l id && fitB (qa l (pl l id)).mc (qa l (pl l id)).mm (vecAt l (uvL m) (pl l id)).1 (vecAt l (uvL m) (pl l id)).2)
/-- A list without what stands at a place. -/
def wo (m : List Le) (i : Nat) : List Le := m.take i ++ m.drop (i + 1)
theorem wo_sub (m : List Le) (i : Nat) : (wo m i).Sublist m := by
  unfold wo
  have h1 : (m.drop (i + 1)).Sublist (m.drop i) := by
    rw [← List.drop_drop]
    exact List.drop_sublist _ _
  have h2 := List.Sublist.append (List.Sublist.refl (m.take i)) h1
  rw [List.take_append_drop] at h2
  exact h2
theorem sumL_append (q : Int) (b : List Le) : ∀ a : List Le, sumL q (a ++ b) = ((sumL q a).1 + (sumL q b).1, (sumL q a).2 + (sumL q b).2) := by
  intro a
  induction a with
  | nil => exact Prod.ext (by simp [sumL]) (by simp [sumL])
  | cons x r ih =>
    rw [List.cons_append, sumL_cons, sumL_cons, ih]
    by_cases e : x.qu = q
    · rw [if_pos e, if_pos e]; exact Prod.ext (by simp only; omega) (by simp only; omega)
    · rw [if_neg e, if_neg e]
theorem sumL_wo {m : List Le} {i : Nat} (hi : i < m.length) : sumL (la m i).qu (wo m i) = ((sumL (la m i).qu m).1 - ((la m i).sl : Int), (sumL (la m i).qu m).2 - (la m i).me) := by
  have e : m = m.take i ++ (la m i :: m.drop (i + 1)) := by
    have h1 : m.drop i = la m i :: m.drop (i + 1) := by
      rw [List.drop_eq_getElem_cons hi]
      have : la m i = m[i] := by unfold la; rw [List.getElem?_eq_getElem hi]; rfl
      rw [this]
    rw [← h1, List.take_append_drop]
  have h2 : sumL (la m i).qu m = sumL (la m i).qu (m.take i ++ (la m i :: m.drop (i + 1))) := congrArg _ e
  rw [h2]
  unfold wo
  rw [sumL_append, sumL_append, sumL_cons, if_pos rfl]
  exact Prod.ext (by simp only; omega) (by simp only; omega)
/-- Without a lease its queue covers its Min just where that lease may yield. -/
theorem cov_may {l : List Qu} {m : List Le} (hok : ∀ x ∈ m, x.okB) (h : readE l m = 0) {i : Nat} (hi : i < m.length) :
    covB l (wo m i) (la m i).qu = mayB (fun id => qfT l id l.length) (fun i => useT m i m.length) (la m i).qu ((la m i).sl : Int) (la m i).me := by
  have hx := la_mem hi
  have h2 := read_leaf hok h hx
  have hp : pl l (la m i).qu < l.length := of_decide_eq_true h2.1
  have hw := readE_part hok (wo_sub m i) h
  have hokw : ∀ x ∈ wo m i, x.okB := fun x hx => hok x ((wo_sub m i).subset hx)
  obtain ⟨w1, w2, w3⟩ := readE_parts hw
  obtain ⟨m1, m2, m3⟩ := may_y hok h hx hp (pl_id hp).symm
  rw [m1]
  unfold covB
  rw [uvL_yes w2, w3, h2.1]
  have hl : vecAt l (useV (wo m i)) (pl l (la m i).qu) = ((vecAt l (useV m) (pl l (la m i).qu)).1 - ((la m i).sl : Int), (vecAt l (useV m) (pl l (la m i).qu)).2 - (la m i).me) := by
    rw [cT_leaf hokw hw h2.1 h2.2, m2, useT_sum _ _ (Nat.le_refl _), List.take_length, useT_sum _ _ (Nat.le_refl _), List.take_length, sumL_wo hi]
  rw [hl]
  unfold yB
  rw [pl_id hp]
  simp
/-- Has one of the first k leases this task, and may it yield? -/
def fndK (l : List Qu) (m : List Le) (t : Int) : Nat → Bool
  | 0 => false
  | k + 1 => fndK l m t k || (decide ((la m k).ta = t) && covB l (wo m k) (la m k).qu)
theorem fndK_yes {l : List Qu} {m : List Le} {t : Int} {j : Nat} (h1 : (la m j).ta = t) (h2 : covB l (wo m j) (la m j).qu = true) : ∀ {k : Nat}, j < k → fndK l m t k = true := by
  intro k
  induction k with
  | zero => intro h; omega
  | succ k ih =>
    intro h
    unfold fndK
    rcases Nat.lt_or_ge j k with h3 | h3
    · rw [ih h3]; rfl
    · obtain rfl : j = k := by omega
      rw [h1, h2]; simp
theorem lastL_sub (ls : List Le) : (lastL ls).Sublist ls := by rw [lastL_eq]; exact List.filter_sublist
/-- The victim is found. -/
theorem best_found {l : List Qu} {ls : List Le} {p q : Int} (hok : ∀ x ∈ ls, x.okB) (h : readE l ls = 0) (hc : chk p q = 0) {b : Le} (hb : bestL l ls p q = some b) : fndK l (lastL ls) b.ta (lastL ls).length = true := by
  have hokm : ∀ x ∈ lastL ls, x.okB := fun x hx => hok x ((lastL_sub ls).subset hx)
  have hm := readE_part hok (lastL_sub ls) h
  obtain ⟨⟨j, hj, e⟩, hmay, _⟩ := greT_best (Nat.le_refl _) (fun j hj => cand_of hokm hm hc (la_mem hj)) hb
  rw [e] at hmay ⊢
  exact fndK_yes rfl ((cov_may hokm hm hj).trans hmay) hj
/-- Where there is none none may go. -/
theorem none_may {l : List Qu} {ls : List Le} {p q : Int} (hok : ∀ x ∈ ls, x.okB) (h : readE l ls = 0) (hb : bestL l ls p q = none) {j : Nat} (hj : j < (lastL ls).length) : covB l (wo (lastL ls) j) (la (lastL ls) j).qu = false := by
  have hokm : ∀ x ∈ lastL ls, x.okB := fun x hx => hok x ((lastL_sub ls).subset hx)
  rw [cov_may hokm (readE_part hok (lastL_sub ls) h) hj]
  exact greT_none hb j hj
/-- Is all that is handed in of the form? -/
def vicB (l : List Qu) (ls : List Le) (p q : Int) : Bool := decide (useErr ls = 0) && (decide (sumsE l (uvL ls) = 0) && okv (p, q))
theorem vic_read {l : List Qu} {ls : List Le} {p q : Int} (h : vicB l ls p q = true) : readE l ls = 0 ∧ chk p q = 0 := by
  unfold vicB at h
  rw [Bool.and_eq_true, Bool.and_eq_true, decide_eq_true_eq, decide_eq_true_eq] at h
  obtain ⟨h1, h2, h3⟩ := h
  rw [uvL_yes h1] at h2
  exact ⟨readE_mk (sumsE_zero h2).1 h1 h2, chk_ok h3⟩
theorem lastL_last (ls : List Le) : lastL (lastL ls) = lastL ls := by rw [lastL_eq (lastL ls), lastL_eq, List.filter_filter]; simp
/-- Leases that don't last are as if they weren't there. -/
theorem stops_eq {l : List Qu} {ls : List Le} {p q : Int} (hok : ∀ x ∈ ls, x.okB) (h : readE l ls = 0) : chsE l (lastL ls) p q = chsE l ls p q ∧ chsT l (lastL ls) p q = chsT l ls p q := by
  have hm := readE_part hok (lastL_sub ls) h
  have hb : bestL l (lastL ls) p q = bestL l ls p q := by unfold bestL; rw [lastL_last]
  unfold chsE chsT
  rw [hm, h, hb]
  exact ⟨rfl, rfl⟩
end Go.Proofs.Ytdbkjcnanffibaa

namespace Go.Proofs.Ytdbkjcnanffibaa
open Go.RowKit Go.Deep Go.Maps Go.Shelf
set_option linter.unusedVariables false
set_option linter.unusedSimpArgs false

theorem ret_b {a b : Bool} (h : a = b) : Ending.returned (.bool b) = Ending.returned (.bool a) := by rw [h]
/-- The list of 'Uses', told by what it is, also beside an error. -/
theorem AnsS.isU {lo : Nat} {w : World} {v : Value} {l : List Le} (hok : ∀ x ∈ l, x.okB) (h : AnsS lo w v (useErr l) l) : OwnE 45 3 Us.cs lo w v (uvL l).length (uvL l) := by
  unfold uvL
  by_cases e : useErr l = 0
  · rw [if_pos e]; exact (h.is hok e).1
  · rw [if_neg e]
    rcases h with ⟨_, rfl⟩ | ⟨h, _⟩
    · exact OwnE.nil _ _ _ _ _
    · exact absurd h e
theorem uvL_le {l : List Le} : (uvL l).length ≤ l.length := by
  unfold uvL
  split
  · unfold useV; rw [usesOf_len]; exact idsT_len l l.length
  · simp
theorem uvL_q {l : List Le} (hok : ∀ x ∈ l, x.okB) : ∀ u ∈ uvL l, I64 u.qu := by
  unfold uvL
  split
  · exact useV_q hok
  · intro u hu; cases hu

theorem nequ_same (a b c : Int) (w : World) : Sem.run Try.prog (binOp BinOp.neq 45 (.agg #[.int .i64 a, .int .i64 b, .int .i64 c]) (.agg #[.int .i64 a, .int .i64 b, .int .i64 c])) w = .ok (.bool false) w := by
  have hS : Try.prog.underlying 45 = some (.struct (Try.prog.fieldsOf 45)) := by kernel_rfl
  have hp : Try.prog.stoodInHeld 45 = false := by kernel_rfl
  have hS2 : Try.prog.underlying 32 = some (.struct (Try.prog.fieldsOf 32)) := by kernel_rfl
  have hp2 : Try.prog.stoodInHeld 32 = false := by kernel_rfl
  have u3 := Try.underlying3
  have a3 := Try.isAgg3
  have z3 := Try.sizeOf3
  have u2 := Try.underlying2
  have a2 := Try.isAgg2
  have z2 := Try.sizeOf2
  have a24 := Try.isAgg32
  have z24 := Try.sizeOf32
  have e24 : ∀ (d : Nat) (x y : Int) (w : World), (Op.equalIn (d + 2) 32 (.agg #[.int .i64 x, .int .i64 y]) (.agg #[.int .i64 x, .int .i64 y])).run Try.prog w = .ok true w := fun d x y w => by
    rw [run_equalIn_agg w (d + 1) 32 _ _ hS2 hp2]
    simp only [Program.fieldsOf, Try.underlying32]
    go_simp
  rw [run_neq_struct, show (10000 : Nat) = 9999 + 1 from rfl, run_equalIn_agg w 9999 45 _ _ hS hp]
  simp only [Program.fieldsOf, Try.underlying45]
  go_simp

set_option maxRecDepth 100000 in
set_option maxHeartbeats 2000000 in
theorem usame_any (a b : Option Addr) (len ca cb : Nat) (l : List Us) (w : World) (h1 : HoldsU w a len ca l) (h2 : HoldsU w b len cb l) :
    Calls Try.prog 10 #[.slice a len ca, .slice b len cb] w fun e w' => e = .returned (.bool true) ∧ Below w.heap.size w w' := by
  rcases Nat.eq_zero_or_pos len with rfl | hp
  · clear h1 h2
    go_enter Try.func10, Try.ntmps10
    go_wp2_with fail
    refine wp_loop_rounds 1 ?_
    rw [rounds_succ]
    go_wp2
    go_ret
    exact ⟨rfl, Below.refl _ _⟩
  · have hl := h1.1
    have hca := h1.2.1
    have hcb := h2.2.1
    have hcm := h1.2.2.1
    obtain ⟨b1, o1, rfl, R1⟩ := h1.rowU hp
    obtain ⟨b2, o2, rfl, R2⟩ := h2.rowU hp
    have HR1 := hid R1
    have HR2 := hid R2
    have HL := hid hl
    have hns := nequ_same
    clear R1 R2 h1 h2 hl
    go_enter Try.func10, Try.ntmps10
    go_wp2_with fail
    go_loopw [13] (fun i wr => ∃ k : Nat, k ≤ len ∧ i = .int .i64 k ∧ Below w.heap.size w wr) (fun i _ => len - (intOf i).toNat)
    case atStart => exact ⟨0, by omega, rfl, Below.refl _ _⟩
    case round =>
      obtain ⟨k, hk, rfl, hB⟩ := hrel
      by_cases hlt : k < len
      · obtain ⟨c0, c1, c2⟩ := HR1.out k hlt
        obtain ⟨d0, d1, d2⟩ := HR2.out k hlt
        replace c0 := keepc hB c0
        replace c1 := keepc hB c1
        replace c2 := keepc hB c2
        replace d0 := keepc hB d0
        replace d1 := keepc hB d1
        replace d2 := keepc hB d2
        generalize ua l k = q at *
        obtain ⟨q1, q2, q3⟩ := q
        simp only at *
        have ka : (0 : Int) ≤ (k : Int) := by omega
        have kb : (k : Int) < (len : Int) := by omega
        go_wp2_with fail
        go_quiet (fail)
        go_wp2
        go_roundw
        case rel => exact ⟨k + 1, by omega, by go_num, below_drewN hB _⟩
        case measure => simp [intOf]; omega
      · go_wp2
        go_ret
        exact ⟨rfl, hB⟩

set_option maxHeartbeats 1000000 in
theorem rat_any (a : Option Addr) (len cap : Nat) (l : List Qu) (id : Int) (w : World) (h : HoldsQ w a len cap l) :
    Calls Try.prog 17 #[.slice a len cap, .int .i64 id] w fun e w' => e = .returned (.int .i64 (plI l id)) ∧ Below w.heap.size w w' := by
  have PL := hid (place_any a len cap l id w h)
  clear h
  go_enter Try.func17, Try.ntmps17
  go_wp2_with fail
  refine PL.out.mono ?_
  rintro e w1 ⟨rfl, b1⟩
  go_wp2
  go_ret
  exact ⟨rfl, b1⟩
end Go.Proofs.Ytdbkjcnanffibaa

namespace Go.Proofs.Ytdbkjcnanffibaa
open Go.RowKit Go.Deep Go.Maps Go.Shelf
set_option linter.unusedVariables false
set_option linter.unusedSimpArgs false

set_option maxRecDepth 100000 in
set_option maxHeartbeats 2000000 in
theorem victims_any (a : Option Addr) (len cap : Nat) (l : List Qu) (b : Option Addr) (ln cp : Nat) (ls : List Le) (p1 p2 : Int) (w : World) (h : HoldsQ w a len cap l) (hok : ∀ q ∈ l, q.ok) (hl : HoldsL w b ln cp ls) (hlo : ∀ x ∈ ls, x.okB) (hn : ln * 24 ≤ 140737488355328) :
    Calls Try.prog 15 #[.slice a len cap, .slice b ln cp, .agg #[.int .i64 p1, .int .i64 p2]] w fun e w' => e = .returned (.bool (vicB l ls p1 p2)) ∧ Below w.heap.size w w' := by
  have B0 := hid ((Below.refl w.heap.size w).alloc (Nat.le_refl _) (.cells #[.int .i64 p1, .int .i64 p2] 32))
  have z0 : (w.alloc (.cells #[.int .i64 p1, .int .i64 p2] 32)).cell? ⟨w.heap.size, 0, none⟩ = some (.int .i64 p1) := by simp [go_sem]
  have z1 : (w.alloc (.cells #[.int .i64 p1, .int .i64 p2] 32)).cell? ⟨w.heap.size, 1, none⟩ = some (.int .i64 p2) := by simp [go_sem]
  have US := hid (fun W (hW : Below w.heap.size w W) => uuses_any b ln cp ls W (hl.below hW) hlo hn)
  have SU := hid (fun ub n uc W (hW : Below w.heap.size w W) (hu : HoldsU W ub n uc (uvL ls)) => qsums_any a len cap l ub n uc (uvL ls) W (h.below hW) hok hu (uvL_q hlo))
  have CK := hid (fun W => check_any p1 p2 W)
  have HLO := hid hlo
  clear h hok hl hlo
  have VB : Hid (vicB l ls p1 p2 = (decide (useErr ls = 0) && (decide (sumsE l (uvL ls) = 0) && okv (p1, p2)))) := rfl
  have CO : Hid (okv (p1, p2) = (chk p1 p2 == 0)) := by
    unfold Hid
    cases e : okv (p1, p2) with
    | true => rw [chk_ok e]; rfl
    | false => rw [chk_no e]; rfl
  rw [CO.out] at VB
  generalize hu : useErr ls = UE at *
  generalize hs : sumsE l (uvL ls) = SE at *
  generalize hc : chk p1 p2 = CE at *
  have HU := hid hu
  clear hu hs hc CO
  go_enter Try.func15, Try.ntmps15
  go_wp2_with fail
  refine (US.out _ B0.out).mono ?_
  rintro e w1 ⟨v1, rfl, o1, b1⟩
  rw [← HU.out] at o1
  have O1 := o1.isU HLO.out
  obtain ⟨ua_, uc_, rfl⟩ := O1.form
  have H1 := O1.holds Us.cs_len
  have B1 := hid (B0.out.trans (b1.mono B0.out.size))
  replace z0 := keepc b1 z0
  replace z1 := keepc b1 z1
  have S1 := hid (SU.out _ _ _ _ B1.out H1)
  clear o1 O1 H1 b1 US SU
  go_wp2_with fail
  refine S1.out.mono ?_
  rintro e w2 ⟨v2, rfl, o2, b2⟩
  have B2 := hid (B1.out.trans (b2.mono B1.out.size))
  replace z0 := keepc b2 z0
  replace z1 := keepc b2 z1
  clear o2 b2 S1
  by_cases e1 : UE = 0
  · subst e1
    by_cases e2 : SE = 0
    · subst e2
      go_wp2_with fail
      refine (CK.out _).mono ?_
      rintro e w3 ⟨rfl, b3⟩
      have B3 := hid (B2.out.trans (b3.mono B2.out.size))
      go_wp2_with fail
      go_ret
      exact ⟨by rw [VB.out]; simp, B3.out⟩
    · have t : (SE == 0) = false := by simpa using e2
      have V2 : Hid (vicB l ls p1 p2 = false) := by unfold Hid; rw [VB.out]; simp [e2]
      clear VB
      go_wp2_with fail
      go_ret
      exact ⟨ret_b V2.out, B2.out⟩
  · have t : (UE == 0) = false := by simpa using e1
    have V2 : Hid (vicB l ls p1 p2 = false) := by unfold Hid; rw [VB.out]; simp [e1]
    clear VB
    go_wp2_with fail
    go_ret
    exact ⟨ret_b V2.out, B2.out⟩
end Go.Proofs.Ytdbkjcnanffibaa

namespace Go.Proofs.Ytdbkjcnanffibaa
open Go.RowKit Go.Deep Go.Maps Go.Shelf
set_option linter.unusedVariables false
set_option linter.unusedSimpArgs false

set_option maxRecDepth 100000 in
set_option maxHeartbeats 4000000 in
theorem live_any (a : Option Addr) (len cap : Nat) (l : List Le) (w : World) (h : HoldsL w a len cap l) (hn : len * 80 ≤ 140737488355328) :
    Calls Try.prog 12 #[.slice a len cap] w fun e w' => ∃ v, e = .returned v ∧ OwnE 38 8 Le.cs w.heap.size w' v (lastL l).length (lastL l) ∧ Below w.heap.size w w' := by
  have HQ := hid h
  have HL := hid h.1.1
  have hcap := h.1.2.1
  have hcm := h.1.2.2.1
  clear h
  go_enter Try.func12, Try.ntmps12
  go_wp2_with fail
  go_loopw [3, 8] (fun s i wr => ∃ k : Nat, k ≤ len ∧ i = .int .i64 (k : Int) ∧ Hid (OwnE 38 8 Le.cs w.heap.size wr s (lastT l k).length (lastT l k)) ∧ Hid (Below w.heap.size w wr)) (fun s i _ => len - (intOf i).toNat)
  case atStart => exact ⟨0, by omega, rfl, OwnE.nil _ _ _ _ _, Below.refl _ _⟩
  case round =>
    obtain ⟨k, hk, rfl, hO, hB⟩ := hrel
    by_cases hlt : k < len
    · have hlt' : k < l.length := by rw [HL.out]; exact hlt
      obtain ⟨b, off, rfl, hbl, Rw⟩ := HQ.out.1.rowL (by omega)
      obtain ⟨d1, d2, d3, d4, d5, d6, d7, d8⟩ := Rw k hlt
      have c1 := keepc hB.out d1
      have c2 := keepc hB.out d2
      have c3 := keepc hB.out d3
      have c4 := keepc hB.out d4
      have c5 := keepc hB.out d5
      have c6 := keepc hB.out d6
      have c7 := keepc hB.out d7
      have c8 := keepc hB.out d8
      have ka : (0 : Int) ≤ (k : Int) := by omega
      have kb : (k : Int) < (len : Int) := by omega
      have NX : Hid (lastT l (k + 1) = if (la l k).st = true then lastT l k else lastT l k ++ [la l k]) := rfl
      have hle := lastT_le (l := l) k
      clear d1 d2 d3 d4 d5 d6 d7 d8 Rw
      generalize hx : la l k = x at *
      have HX := hid hx
      clear hx
      generalize hln : (lastT l k).length = ln at *
      have HLN := hid hln
      clear hln
      obtain ⟨x1, x2, x3, sa, sl, sc, x5, x6, x7, x8, co⟩ := x
      simp only at c1 c2 c3 c4 c5 c6 c7 c8 NX
      cases x8
      · have NX2 : Hid (lastT l (k + 1) = lastT l k ++ [⟨x1, x2, x3, sa, sl, sc, x5, x6, x7, false, co⟩]) := by unfold Hid; rw [NX.out]; simp
        have BX := hid (hB.out.alloc hB.out.size (.cells #[.int .i64 x1, .int .i64 x2, .int .i64 x3, .slice sa sl sc, .int .i64 x5, .int .i64 x6, .int .i64 x7, .bool false] 38))
        have OX := hid (hO.out.below ((Below.refl wr.heap.size wr).alloc (Nat.le_refl _) (.cells #[.int .i64 x1, .int .i64 x2, .int .i64 x3, .slice sa sl sc, .int .i64 x5, .int .i64 x6, .int .i64 x7, .bool false] 38)))
        clear NX hO
        go_wp2_with (at_builtin; refine push_ownE 22 38 _ 80 Le.cs_len Le.one Try.underlying22 infoLe rfl (by decide) (wr.alloc (.cells #[.int .i64 x1, .int .i64 x2, .int .i64 x3, .slice sa sl sc, .int .i64 x5, .int .i64 x6, .int .i64 x7, .bool false] 38)) (⟨x1, x2, x3, sa, sl, sc, x5, x6, x7, false, co⟩ : Le) rfl (.tmp 15) (.tmp 17) rfl w.heap.size ln u3 _ _ rfl rfl OX.out BX.out.size (by simp [Act.eval]) (by omega) (by omega) ?_)
        intro v' w1 h1 h2 _
        have O1 := hid h1
        have hB1 := hid (BX.out.trans h2)
        clear h1 h2
        go_wp2_with fail
        refine ⟨⟨k + 1, by omega, by go_num, by unfold Hid; rw [NX2.out, List.length_append, HLN.out]; exact O1.out, hB1⟩, ?_⟩
        simp [intOf]; omega
      · have NX2 : Hid (lastT l (k + 1) = lastT l k) := by unfold Hid; rw [NX.out]; simp
        have BX := hid (hB.out.alloc hB.out.size (.cells #[.int .i64 x1, .int .i64 x2, .int .i64 x3, .slice sa sl sc, .int .i64 x5, .int .i64 x6, .int .i64 x7, .bool true] 38))
        have OX := hid (hO.out.below ((Below.refl wr.heap.size wr).alloc (Nat.le_refl _) (.cells #[.int .i64 x1, .int .i64 x2, .int .i64 x3, .slice sa sl sc, .int .i64 x5, .int .i64 x6, .int .i64 x7, .bool true] 38)))
        clear NX hO
        go_wp2_with fail
        refine ⟨⟨k + 1, by omega, by go_num, by unfold Hid; rw [NX2.out, HLN.out]; exact OX.out, BX⟩, ?_⟩
        simp [intOf]; omega
    · obtain rfl : k = len := by omega
      have O : Hid (OwnE 38 8 Le.cs w.heap.size wr u3 (lastL l).length (lastL l)) := by unfold Hid lastL; rw [HL.out]; exact hO.out
      clear hO
      go_wp2_with fail
      go_ret
      exact ⟨_, rfl, O.out, hB.out⟩
end Go.Proofs.Ytdbkjcnanffibaa

namespace Go.Proofs.Ytdbkjcnanffibaa
open Go.RowKit Go.Deep Go.Maps Go.Shelf
set_option linter.unusedVariables false
set_option linter.unusedSimpArgs false

theorem gd_is {x : Le} : x.gd = (decide (x.sl ≤ 64) && decide (0 ≤ x.me ∧ x.me ≤ 1099511627776)) := by
  unfold Le.gd
  by_cases h : x.sl ≤ 64
  · rw [decide_eq_true h, Bool.true_and, Bool.true_and]
    unfold okv okp
    apply decide_eq_decide.2
    simp only
    omega
  · rw [decide_eq_false h]; rfl
theorem gd_me {l : List Le} (hg : gdB l = true) {x : Le} (hx : x ∈ l) : x.me ≤ 1099511627776 := by
  unfold gdB at hg
  rw [List.all_eq_true] at hg
  have := hg x hx
  unfold Le.gd at this
  rw [Bool.and_eq_true] at this
  exact (okv_true this.2).2.2
theorem cm_min (s : Int) : cm s = min s 1099511627777 := by unfold cm; split <;> omega
theorem gd_sl {l : List Le} (hg : gdB l = true) {x : Le} (hx : x ∈ l) : x.sl ≤ 64 := by
  unfold gdB at hg
  rw [List.all_eq_true] at hg
  have := hg x hx
  unfold Le.gd at this
  rw [Bool.and_eq_true] at this
  exact of_decide_eq_true this.1
set_option maxRecDepth 100000 in
set_option maxHeartbeats 8000000 in
theorem ruses_any (a : Option Addr) (len cap : Nat) (l : List Le) (w : World) (h : HoldsL w a len cap l) (hok : ∀ x ∈ l, x.okB) (hn : len * 64 ≤ 140737488355328) :
    Calls Try.prog 9 #[.slice a len cap] w fun e w' => ∃ v, e = .returned (.tuple #[v, .int .i64 (useErr l)]) ∧ OwnE 45 3 Us.cs w.heap.size w' v (uvL l).length (uvL l) ∧ Below w.heap.size w w' := by
  have HQ := hid h
  have HL := hid h.1.1
  have hcap := h.1.2.1
  have hcm := h.1.2.2.1
  have HO := hid hok
  clear h hok
  go_enter Try.func9, Try.ntmps9
  go_wp2_with fail
  go_loopw [4, 15] (fun s i wr => ∃ k : Nat, k ≤ len ∧ i = .int .i64 (k : Int) ∧ Hid (OwnN w.heap.size wr s (idsT l k).length (idsT l k)) ∧ Hid (∀ j, j < k → (la l j).gd = true) ∧ Hid (Below w.heap.size w wr)) (fun s i _ => len - (intOf i).toNat)
  case atStart => exact ⟨0, by omega, rfl, OwnE.nil _ _ _ _ _, fun j hj => absurd hj (by omega), Below.refl _ _⟩
  case round =>
    obtain ⟨k, hk, rfl, hO, hall, hB⟩ := hrel
    by_cases hlt : k < len
    · have hlt' : k < l.length := by rw [HL.out]; exact hlt
      obtain ⟨b, off, rfl, hbl, Rw⟩ := HQ.out.1.rowL (by omega)
      obtain ⟨d1, d2, d3, d4, d5, d6, d7, d8⟩ := Rw k hlt
      have c1 := keepc hB.out d1
      have c2 := keepc hB.out d2
      have c3 := keepc hB.out d3
      have c4 := keepc hB.out d4
      have c5 := keepc hB.out d5
      have c6 := keepc hB.out d6
      have c7 := keepc hB.out d7
      have c8 := keepc hB.out d8
      have ka : (0 : Int) ≤ (k : Int) := by omega
      have kb : (k : Int) < (len : Int) := by omega
      clear d1 d2 d3 d4 d5 d6 d7 d8 Rw
      have GD := hid (gd_is (x := la l k))
      have BAD := hid (fun (e : (la l k).gd = false) => useErr_bad hlt' e)
      have IN := hid (fun (e : hasN (idsT l k) (la l k).qu = true) => idsT_in HO.out hlt' e)
      have OU := hid (fun (e : hasN (idsT l k) (la l k).qu = false) => idsT_out (l := l) (k := k) e)
      have UB : useErr l = 1 → uvL l = [] := fun e => by unfold uvL; rw [if_neg (by rw [e]; decide)]
      have HUB := hid UB
      clear UB
      have hil := idsT_len l k
      obtain ⟨ia, ic, rfl⟩ := hO.out.form
      have HI := hid (hO.out.holds encN_len)
      generalize hx : la l k = x at *
      have HX := hid hx
      clear hx
      obtain ⟨x1, x2, x3, sa, sl, sc, x5, x6, x7, x8, co⟩ := x
      simp only at c1 c2 c3 c4 c5 c6 c7 c8 GD IN OU
      have HH := hid (fun W (hW : Below wr.heap.size wr W) => hasN_any ia (idsT l k).length ic (idsT l k) x2 W (HI.out.below hW) (by omega))
      have HR := hid (fun W (hW : Below wr.heap.size wr W) => rinsert_any ia (idsT l k).length ic (idsT l k) x2 W (HI.out.below hW) (by omega))
      have BA := hid ((Below.refl wr.heap.size wr).alloc (Nat.le_refl _) (.cells #[.int .i64 x1, .int .i64 x2, .int .i64 x3, .slice sa sl sc, .int .i64 x5, .int .i64 x6, .int .i64 x7, .bool x8] 38))
      have a2 : (wr.alloc (.cells #[.int .i64 x1, .int .i64 x2, .int .i64 x3, .slice sa sl sc, .int .i64 x5, .int .i64 x6, .int .i64 x7, .bool x8] 38)).cell? ⟨wr.heap.size, 1, none⟩ = some (.int .i64 x2) := by simp [go_sem]
      generalize hln : (idsT l k).length = ln at *
      have HLN := hid hln
      clear hln HI
      cases hg : (⟨x1, x2, x3, sa, sl, sc, x5, x6, x7, x8, co⟩ : Le).gd with
      | false =>
        have ER := hid (BAD.out hg)
        have UV := hid (HUB.out ER.out)
        rw [hg] at GD
        clear hall IN OU BAD HUB HX HLN a2 hg hil
        by_cases t1 : x5 < 0
        · go_wp2_with fail
          go_ret2
          exact ⟨_, ret_u ER.out, by rw [UV.out]; exact OwnE.nil _ _ _ _ _, hB.out.trans (BA.out.mono hB.out.size)⟩
        · by_cases t2 : 1099511627776 < x5
          · go_wp2_with fail
            go_ret2
            exact ⟨_, ret_u ER.out, by rw [UV.out]; exact OwnE.nil _ _ _ _ _, hB.out.trans (BA.out.mono hB.out.size)⟩
          · have t3 : (64 : Int) < (sl : Int) := by
              have h1 := GD.out.symm
              rw [Bool.and_eq_false_iff, decide_eq_false_iff_not, decide_eq_false_iff_not] at h1
              omega
            go_wp2_with fail
            go_ret2
            exact ⟨_, ret_u ER.out, by rw [UV.out]; exact OwnE.nil _ _ _ _ _, hB.out.trans (BA.out.mono hB.out.size)⟩
      | true =>
        have h1 := GD.out.symm
        rw [hg, Bool.and_eq_true, decide_eq_true_eq, decide_eq_true_eq] at h1
        obtain ⟨g1, g2, g3⟩ := h1
        have AL : Hid (∀ j, j < k + 1 → (la l j).gd = true) := fun j hj => by
          rcases Nat.lt_or_ge j k with h | h
          · exact hall.out j h
          · obtain rfl : j = k := by omega
            rw [HX.out]; exact hg
        clear hall BAD HUB HX GD hg
        cases hh : hasN (idsT l k) x2 with
        | true =>
          have E := hid (IN.out hh)
          rw [hh] at HH
          clear IN OU HR hh
          go_wp2_with fail
          refine (HH.out _ BA.out).mono ?_
          rintro e w1 ⟨rfl, rfl⟩
          have BX := hid BA.out
          clear HH
          go_wp2_with fail
          refine ⟨⟨k + 1, by omega, by go_num, by unfold Hid; rw [E.out, HLN.out]; exact hO.out.below BX.out, AL, hB.out.trans (BX.out.mono hB.out.size)⟩, ?_⟩
          simp [intOf]; omega
        | false =>
          have E := hid (OU.out hh)
          rw [hh] at HH
          clear IN OU hh
          go_wp2_with fail
          refine (HH.out _ BA.out).mono ?_
          rintro e w1 ⟨rfl, rfl⟩
          have BX := hid BA.out
          clear HH
          go_wp2_with fail
          refine (HR.out _ BX.out).mono ?_
          rintro e w2 ⟨v2, rfl, o2, b2⟩
          have BY := hid (BX.out.trans (b2.mono BX.out.size))
          have O2 := hid (o2.weaken (b' := w.heap.size) (Nat.le_trans hB.out.size BX.out.size))
          clear o2 b2 HR
          go_wp2_with fail
          refine ⟨⟨k + 1, by omega, by go_num, by unfold Hid; rw [← E.out]; exact O2.out, AL, hB.out.trans (BY.out.mono hB.out.size)⟩, ?_⟩
          simp [intOf]; omega
    · obtain rfl : k = len := by omega
      have e0 := HL.out
      subst e0
      have GB := hid (gdB_at (fun j hj => hall.out j hj))
      obtain ⟨ia, ic, rfl⟩ := hO.out.form
      have HI := hid (hO.out.holds encN_len)
      have RT := hid (riseT HO.out (Nat.le_refl l.length))
      have hil := idsT_len l l.length
      have VS := hid hB.out
      have PO := hid (fun q {k : Nat} (hk : k ≤ l.length) => useT_pos GB.out q hk)
      clear hall hO hB
      have UVL : Hid (useErr l = 0 → uvL l = usesOf (fun q => useT l q l.length) (idsT l l.length)) := fun e => by rw [uvL_yes e]; rfl
      have UVN : Hid (useErr l = 2 → uvL l = []) := fun e => by unfold uvL; rw [if_neg (by rw [e]; decide)]
      have FIN : Hid ((∀ q ∈ idsT l l.length, okv (useT l q l.length) = true) → useErr l = 0) := fun hq => useErr_fine GB.out hq HO.out
      have OVR := hid (fun q (h : okv (useT l q l.length) = false) => useErr_over GB.out h)
      have GDA := hid (fun x (hx : x ∈ l) => gd_pos GB.out x hx)
      generalize idsT l l.length = ids at *
      generalize hn' : ids.length = n at *
      have HN := hid hn'
      clear hn'
      rename World => w0
      go_wp2_with fail
      go_loopw [7, 45] (fun s i wr => ∃ j : Nat, j ≤ n ∧ i = .int .i64 (j : Int) ∧ Hid (OwnE 45 3 Us.cs w0.heap.size wr s j (usesOf (fun q => useT l q l.length) (ids.take j))) ∧ Hid (∀ m, m < j → okv (useT l (ids[m]?.getD 0) l.length) = true) ∧ Hid (Below w0.heap.size w0 wr)) (fun s i _ => n - (intOf i).toNat)
      case atStart => exact ⟨0, by omega, rfl, OwnE.nil _ _ _ _ _, fun j hj => absurd hj (by omega), Below.refl _ _⟩
      case round =>
        obtain ⟨j, hj, rfl, hO, hall, hB⟩ := hrel
        by_cases hlt : j < n
        · have hlt' : j < ids.length := by rw [HN.out]; exact hlt
          obtain ⟨ib, io, rfl, RI⟩ := HI.out.rowN (by omega)
          have c0 := keepc hB.out (RI j hlt)
          have SN := hid (usesOf_snoc (fun q => useT l q l.length) hlt')
          have hmem : Hid (ids[j]?.getD 0 ∈ ids) := by unfold Hid; rw [List.getElem?_eq_getElem hlt']; exact List.getElem_mem hlt'
          have ka : (0 : Int) ≤ (j : Int) := by omega
          have kb : (j : Int) < (n : Int) := by omega
          have kc : (n : Int) ≤ 9223372036854775807 := by omega
          clear RI
          obtain ⟨q, hq⟩ : ∃ q, ids[j]?.getD 0 = q := ⟨_, rfl⟩
          rw [hq] at c0 SN hmem
          have QJ := hid hq
          clear hq
          rename World => WR
          go_wp2_with fail
          go_loopw [53] (fun i w2 => ∃ k2 : Nat, k2 ≤ l.length ∧ i = .int .i64 (k2 : Int) ∧ Hid (Below WR.heap.size WR w2) ∧ Hid (w2.cell? ⟨WR.heap.size, 0, none⟩ = some (.int .i64 q)) ∧ Hid (w2.cell? ⟨WR.heap.size, 1, none⟩ = some (.int .i64 (cm (useT l q k2).1))) ∧ Hid (w2.cell? ⟨WR.heap.size, 2, none⟩ = some (.int .i64 (cm (useT l q k2).2))) ∧ Hid (∀ j, w2.frozen? ⟨WR.heap.size, j, none⟩ = false)) (fun i _ => l.length - (intOf i).toNat)
          case atStart => exact ⟨0, by omega, rfl, (Below.refl _ WR).alloc (Nat.le_refl _) _, by simp [Hid, go_sem], by simp [Hid, go_sem]; rfl, by simp [Hid, go_sem]; rfl, fun j => by simp [go_sem]⟩
          case round =>
            obtain ⟨k2, hk2, rfl, hBW, hq0, hq1, hq2, hfz⟩ := hrel
            have hsz := hBW.out.size
            have ltS := cell_lt hq0.out
            simp only at ltS
            by_cases hlt2 : k2 < l.length
            · obtain ⟨b, off, rfl, hbl, Rw⟩ := HQ.out.1.rowL (by omega)
              obtain ⟨d1, d2, d3, d4, d5, d6, d7, d8⟩ := Rw k2 hlt2
              have hBw2 := (VS.out.trans (hB.out.mono VS.out.size))
              replace hBw2 := hBw2.trans (hBW.out.mono hBw2.size)
              have c1 := keepc hBw2 d1
              have c2 := keepc hBw2 d2
              have c3 := keepc hBw2 d3
              have c4 := keepc hBw2 d4
              have c5 := keepc hBw2 d5
              have c6 := keepc hBw2 d6
              have c7 := keepc hBw2 d7
              have c8 := keepc hBw2 d8
              have k2a : (0 : Int) ≤ (k2 : Int) := by omega
              have k2b : (k2 : Int) < (l.length : Int) := by omega
              clear d1 d2 d3 d4 d5 d6 d7 d8 Rw hBw2
              have NX := hid (useT_cons l q k2)
              obtain ⟨nc, nm⟩ := PO.out q hk2
              have hme := GDA.out _ (la_mem hlt2)
              have hsl := gd_sl GB.out (la_mem hlt2)
              have hmx := gd_me GB.out (la_mem hlt2)
              generalize hx : la l k2 = x at *
              clear hx
              obtain ⟨x1, x2, x3, sa, sl, sc, x5, x6, x7, x8, co⟩ := x
              simp only at c1 c2 c3 c4 c5 c6 c7 c8 NX hme hsl hmx
              obtain ⟨C, hC⟩ : ∃ C, C = (useT l q k2).1 := ⟨_, rfl⟩
              obtain ⟨M, hM⟩ : ∃ M, M = (useT l q k2).2 := ⟨_, rfl⟩
              have NE : Hid (useT l q k2 = (C, M)) := by unfold Hid; rw [hC, hM]
              rw [NE.out] at NX
              rw [← hC] at hq1 nc
              rw [← hM] at hq2 nm
              clear hC hM
              have CA := hid (cm_add nc (Int.natCast_nonneg sl))
              have MA := hid (cm_add nm hme)
              obtain ⟨lc1, lc2⟩ := cm_le nc
              obtain ⟨lm1, lm2⟩ := cm_le nm
              have ab := (Below.refl wr.heap.size wr).alloc (Nat.le_refl _) (.cells #[.int .i64 x1, .int .i64 x2, .int .i64 x3, .slice sa sl sc, .int .i64 x5, .int .i64 x6, .int .i64 x7, .bool x8] 38)
              have B3 := hid (hBW.out.alloc hBW.out.size (.cells #[.int .i64 x1, .int .i64 x2, .int .i64 x3, .slice sa sl sc, .int .i64 x5, .int .i64 x6, .int .i64 x7, .bool x8] 38))
              have s0 := keepc ab hq0.out
              have s1 := keepc ab hq1.out
              have s2 := keepc ab hq2.out
              have G0 : Hid (∀ j, (wr.alloc (.cells #[.int .i64 x1, .int .i64 x2, .int .i64 x3, .slice sa sl sc, .int .i64 x5, .int .i64 x6, .int .i64 x7, .bool x8] 38)).frozen? ⟨WR.heap.size, j, none⟩ = false) := fun j => by rw [ab.frozen (p := ⟨WR.heap.size, j, none⟩) ltS]; exact hfz.out j
              have g1 := G0.out 1
              have g2 := G0.out 2
              have hne : WR.heap.size ≠ wr.heap.size := by omega
              clear ab hq0 hq1 hq2 hfz
              by_cases e : x2 = q
              · subst e
                rw [if_pos rfl] at NX
                generalize hcc : cm C = cC at *
                generalize hmm : cm M = cM at *
                go_upto_region 18 with fail
                clear c1 c2 c3 c4 c5 c6 c7 c8
                have y3 : (wr.alloc (.cells #[.int .i64 x1, .int .i64 x2, .int .i64 x3, .slice sa sl sc, .int .i64 x5, .int .i64 x6, .int .i64 x7, .bool x8] 38)).cell? ⟨wr.heap.size, 3, none⟩ = some (.slice sa sl sc) := by simp [go_sem]
                have y4 : (wr.alloc (.cells #[.int .i64 x1, .int .i64 x2, .int .i64 x3, .slice sa sl sc, .int .i64 x5, .int .i64 x6, .int .i64 x7, .bool x8] 38)).cell? ⟨wr.heap.size, 4, none⟩ = some (.int .i64 x5) := by simp [go_sem]
                have y1 : (wr.alloc (.cells #[.int .i64 x1, .int .i64 x2, .int .i64 x3, .slice sa sl sc, .int .i64 x5, .int .i64 x6, .int .i64 x7, .bool x8] 38)).cell? ⟨wr.heap.size, 1, none⟩ = some (.int .i64 x2) := by simp [go_sem]
                generalize (wr.alloc (.cells #[.int .i64 x1, .int .i64 x2, .int .i64 x3, .slice sa sl sc, .int .i64 x5, .int .i64 x6, .int .i64 x7, .bool x8] 38)) = w6 at *
                generalize hXB : wr.heap.size = XB at *
                go_wp2
                go_roundw
                case rel =>
                  refine ⟨k2 + 1, by omega, by go_num, (B3.out.setCell (p := ⟨WR.heap.size, 1, none⟩) (by simp) _).setCell (p := ⟨WR.heap.size, 2, none⟩) (by simp) _, ?_, ?_, ?_, fun j => by simp; exact G0.out j⟩
                  · simp [Hid, go_sem, s0]
                  · rw [NX.out]; simp only; rw [← CA.out, cm_min]; simp [Hid, go_sem, s1]
                  · rw [NX.out]; simp only; rw [← MA.out, cm_min]; simp [Hid, go_sem, s2]
                case measure => simp [intOf]; omega
              · rw [if_neg e] at NX
                have te : (x2 == q) = false := by simpa using e
                go_wp2
                go_roundw
                case rel =>
                  refine ⟨k2 + 1, by omega, by go_num, B3, s0, ?_, ?_, G0⟩
                  · rw [NX.out]; exact s1
                  · rw [NX.out]; exact s2
                case measure => simp [intOf]; omega
            · obtain rfl : k2 = l.length := by omega
              obtain ⟨nc, nm⟩ := PO.out q hk2
              have OC := hid (okv_cm nc nm)
              have OV := hid (OVR.out q)
              have SM : Hid (okv (useT l q l.length) = true → (cm (useT l q l.length).1, cm (useT l q l.length).2) = useT l q l.length) := fun h => by
                obtain ⟨o1, o2⟩ := okv_true h
                rw [cm_same o1, cm_same o2]
              generalize hU : useT l q l.length = U at *
              have HU := hid hU
              clear hU
              obtain ⟨u1, u2⟩ := U
              simp only at hq1 hq2 OC SM nc nm
              have s0 := hq0.out
              have s1 := hq1.out
              have s2 := hq2.out
              have GO := hid (fun W => good_any (cm u1) (cm u2) W)
              rw [OC.out] at GO
              generalize cm u1 = v1 at *
              generalize cm u2 = v2 at *
              cases ho : okv (u1, u2) with
              | false =>
                have ER := hid (OV.out ho)
                have UV := hid (UVN.out ER.out)
                rw [ho] at GO
                clear ho
                go_wp2_with fail
                refine (GO.out _).mono ?_
                rintro e w2 ⟨rfl, b2⟩
                have hBw2 := (VS.out.trans (hB.out.mono VS.out.size))
                replace hBw2 := hBw2.trans (hBW.out.mono hBw2.size)
                have BE := hid (hBw2.trans (b2.mono hBw2.size))
                clear hBw2 b2
                go_wp2_with fail
                go_ret2
                exact ⟨_, ret_u ER.out, by rw [UV.out]; exact OwnE.nil _ _ _ _ _, BE.out⟩
              | true =>
                have SV := hid (SM.out ho)
                rw [ho] at GO
                have HO := hid ho
                clear ho
                go_wp2_with fail
                refine (GO.out _).mono ?_
                rintro e w2 ⟨rfl, b2⟩
                have B2 := hid (hBW.out.trans (b2.mono hBW.out.size))
                replace s0 := keepc b2 s0
                replace s1 := keepc b2 s1
                replace s2 := keepc b2 s2
                have O2 := hid (hO.out.below B2.out)
                clear b2 GO hO
                have hbs := hid (hB.out.trans (B2.out.mono hB.out.size))
                go_wp2_with (at_builtin; refine push_ownE 24 45 _ 24 Us.cs_len Us.one Try.underlying24 infoUse rfl (by decide) w2 ⟨q, v1, v2⟩ rfl (.tmp 85) (.tmp 87) rfl w0.heap.size j u7 _ _ rfl rfl O2.out hbs.out.size (by simp [Act.eval]) (by omega) (by omega) ?_)
                intro v' w3 h1 h2 _
                have O1 := hid h1
                have hB1 := hid (hbs.out.trans h2)
                clear h1 h2
                go_wp2_with fail
                refine ⟨⟨j + 1, by omega, by go_num, ?_, ?_, hB1⟩, ?_⟩
                · unfold Hid
                  have e := SV.out
                  cases e
                  have e2 := SN.out
                  try simp only at e2
                  rw [e2]
                  exact O1.out
                · intro m hm
                  rcases Nat.lt_or_ge m j with h | h
                  · exact hall.out m h
                  · obtain rfl : m = j := by omega
                    rw [QJ.out, HU.out]; exact HO.out
                · simp [intOf]; omega
        · obtain rfl : j = n := by omega
          have ER := hid (FIN.out (fun q hq => by
            obtain ⟨m, hm, rfl⟩ := List.mem_iff_getElem.1 hq
            have := hall.out m (by rw [← HN.out]; exact hm)
            rw [List.getElem?_eq_getElem hm] at this
            exact this))
          have UV := hid (UVL.out ER.out)
          have TK : Hid (ids.take j = ids) := List.take_of_length_le (by rw [HN.out]; exact Nat.le_refl _)
          have OE := hO.out
          rw [TK.out] at OE
          have OF := hid (OE.weaken VS.out.size)
          clear OE
          go_wp2_with fail
          go_ret2
          refine ⟨_, ret_u ER.out, ?_, VS.out.trans (hB.out.mono VS.out.size)⟩
          rw [UV.out, usesOf_len, HN.out]
          exact OF.out
end Go.Proofs.Ytdbkjcnanffibaa

namespace Go.Proofs.Ytdbkjcnanffibaa
open Go.RowKit Go.Deep Go.Maps Go.Shelf
set_option linter.unusedVariables false
set_option linter.unusedSimpArgs false

theorem sumsR_len {l : List Qu} {us : List Us} (h : sumsE l us = 0) : sumsR l us = vecsTo l us l.length := by unfold sumsR; rw [if_pos h]

theorem run_min2 (a b c d e f g : Int) (w : World) : Sem.run Try.prog (Instr.field 53 (.agg #[.int .i64 a, .int .i64 b, .int .i64 c, .int .i64 d, .int .i64 e, .int .i64 f, .int .i64 g]) 4) w = .ok (.agg #[.int .i64 f, .int .i64 g]) w := by kernel_rfl
set_option maxRecDepth 100000 in
set_option maxHeartbeats 4000000 in
theorem rcov_any (a : Option Addr) (len cap : Nat) (l : List Qu) (b : Option Addr) (ln cp : Nat) (ls : List Le) (id : Int) (w : World) (h : HoldsQ w a len cap l) (hok : ∀ q ∈ l, q.ok) (hl : HoldsL w b ln cp ls) (hlo : ∀ x ∈ ls, x.okB) (hn : ln * 24 ≤ 140737488355328) :
    Calls Try.prog 13 #[.slice a len cap, .slice b ln cp, .int .i64 id] w fun e w' => e = .returned (.bool (covB l ls id)) ∧ Below w.heap.size w w' := by
  have US := hid (uuses_any b ln cp ls w hl hlo hn)
  have SU := hid (fun ub n uc W (hW : Below w.heap.size w W) (hu : HoldsU W ub n uc (uvL ls)) => qsums_any a len cap l ub n uc (uvL ls) W (h.below hW) hok hu (uvL_q hlo))
  have AT := hid (fun W (hW : Below w.heap.size w W) => rat_any a len cap l id W (h.below hW))
  have HLO := hid hlo
  have HH := hid h
  have HL := hid h.1
  have hcap := h.2.1
  have hcm := h.2.2.1
  have SR := hid (fun (e : sumsE l (uvL ls) = 0) => sumsR_len e)
  have VB : Hid (covB l ls id = (decide (sumsE l (uvL ls) = 0) && (hasQ l id && fitB (qa l (pl l id)).mc (qa l (pl l id)).mm (vecAt l (uvL ls) (pl l id)).1 (vecAt l (uvL ls) (pl l id)).2))) := rfl
  clear h hok hl hlo
  generalize hu : useErr ls = UE at *
  have HU := hid hu
  clear hu
  generalize hs : sumsE l (uvL ls) = SE at *
  clear hs
  go_enter Try.func13, Try.ntmps13
  go_wp2_with fail
  refine US.out.mono ?_
  rintro e w1 ⟨v1, rfl, o1, b1⟩
  rw [← HU.out] at o1
  have O1 := o1.isU HLO.out
  obtain ⟨ua_, uc_, rfl⟩ := O1.form
  have H1 := O1.holds Us.cs_len
  have B1 := hid b1
  have S1 := hid (SU.out _ _ _ _ B1.out H1)
  clear o1 O1 H1 b1 US SU
  go_wp2_with fail
  refine S1.out.mono ?_
  rintro e w2 ⟨v2, rfl, o2, b2⟩
  have B2 := hid (B1.out.trans (b2.mono B1.out.size))
  have O2 := hid o2
  clear o2 b2 S1
  go_wp2_with fail
  refine (AT.out _ B2.out).mono ?_
  rintro e w3 ⟨rfl, b3⟩
  have B3 := hid (B2.out.trans (b3.mono B2.out.size))
  have O3 := hid (O2.out.below b3)
  clear O2 b3 AT
  by_cases e1 : SE = 0
  case neg =>
    have t : (SE == 0) = false := by simpa using e1
    have V2 : Hid (covB l ls id = false) := by unfold Hid; rw [VB.out]; simp [e1]
    clear VB SR e1
    go_wp2_with fail
    go_quiet (fail)
    go_wp2
    go_ret
    exact ⟨ret_b V2.out, below_drewN B3.out _⟩
  subst e1
  have SRE := SR.out rfl
  rw [SRE] at O3
  clear SR
  by_cases hq : pl l id < l.length
  case neg =>
    have t : plI l id = -1 := by unfold plI; rw [if_neg hq]
    have V2 : Hid (covB l ls id = false) := by unfold Hid; rw [VB.out]; unfold hasQ; rw [decide_eq_false hq]; simp
    rw [t]
    clear VB SRE hq t
    go_wp2_with fail
    go_quiet (fail)
    go_wp2
    go_ret
    exact ⟨ret_b V2.out, below_drewN B3.out _⟩
  have t : plI l id = (pl l id : Int) := by unfold plI; rw [if_pos hq]
  have V2 : Hid (covB l ls id = fitB (qa l (pl l id)).mc (qa l (pl l id)).mm (vecAt l (uvL ls) (pl l id)).1 (vecAt l (uvL ls) (pl l id)).2) := by unfold Hid; rw [VB.out]; unfold hasQ; rw [decide_eq_true hq]; simp
  rw [t]
  obtain ⟨va_, vc_, rfl, HV⟩ := O3.out.holds
  rw [vecsTo_len] at HV ⊢
  obtain ⟨lb, lo, rfl, RW⟩ := HH.out.row (by rw [← HL.out]; omega)
  obtain ⟨vb, vo, rfl, RV⟩ := HV.rowV (by omega)
  obtain ⟨e0, e1, e2, e3, e4, e5, e6⟩ := (RW.below B3.out).2 _ hq
  obtain ⟨r0, r1⟩ := RV _ hq
  rw [va_vecs hq] at r0 r1
  have hvc := HV.2.1
  have hvm := HV.2.2.1
  have hql : pl l id < len := by rw [← HL.out]; exact hq
  have hLL := HL.out
  have FI := hid (fun W => fits_any (qa l (pl l id)).mc (qa l (pl l id)).mm (vecAt l (uvL ls) (pl l id)).1 (vecAt l (uvL ls) (pl l id)).2 W)
  clear VB SRE O3 HV RW RV HH t
  generalize fitB (qa l (pl l id)).mc (qa l (pl l id)).mm (vecAt l (uvL ls) (pl l id)).1 (vecAt l (uvL ls) (pl l id)).2 = FB at *
  generalize vecAt l (uvL ls) (pl l id) = V at *
  generalize qa l (pl l id) = q at *
  generalize pl l id = P at *
  obtain ⟨q1, q2, q3, q4, q5, q6, q7⟩ := q
  obtain ⟨v1, v2⟩ := V
  simp only at *
  have ka : (0 : Int) ≤ (P : Int) := by omega
  have kb : (P : Int) < (len : Int) := by omega
  have kc : (P : Int) < (l.length : Int) := by omega
  have kd : (l.length : Int) ≤ 9223372036854775807 := by omega
  go_wp2_with fail
  have e6b : w3.cell? ⟨lb, lo + P * 7 + 5 + 1, none⟩ = some (.int .i64 q7) := e6
  have rg_e5 := drewc e5
  have rg_e6b := drewc e6b
  have rg_e6 := drewc e6
  have rg_r0 := drewc r0
  have rg_r1 := drewc r1
  refine wp_region_held_drew (S := (fun w' => w'.cell? ⟨lb, lo + P * 7 + 5, none⟩ = some (.int .i64 q6) ∧ w'.cell? ⟨lb, lo + P * 7 + 5 + 1, none⟩ = some (.int .i64 q7) ∧ w'.cell? ⟨lb, lo + P * 7 + 6, none⟩ = some (.int .i64 q7) ∧ w'.cell? ⟨vb, vo + P * 2, none⟩ = some (.int .i64 v1) ∧ w'.cell? ⟨vb, vo + P * 2 + 1, none⟩ = some (.int .i64 v2))) (by kernel_rfl) ⟨rg_e5, rg_e6b, rg_e6, rg_r0, rg_r1⟩ (fun hHeld => ?_)
  refine wpAnyH_take (i := 0) (v := .int .i64 0) rfl (by kernel_rfl) (by kernel_rfl) (by kernel_rfl) (fun _ _ _ h => h) (Or.inl ⟨by rfl, ?_⟩) (by assumption) ?_
  · (intro w hSw; (try dsimp only at hSw); go_simp)
  (try simp only [Act.put, List.getElem_toArray, List.getElem_cons_succ, List.getElem_cons_zero, List.setIfInBounds_toArray, List.set_cons_zero, List.set_cons_succ])
  refine wpAnyH_take (i := 1) (v := .bool true) rfl (by kernel_rfl) (by kernel_rfl) (by kernel_rfl) (fun _ _ _ h => h) (Or.inl ⟨by rfl, ?_⟩) (by assumption) ?_
  · (intro w hSw; (try dsimp only at hSw); go_simp)
  (try simp only [Act.put, List.getElem_toArray, List.getElem_cons_succ, List.getElem_cons_zero, List.setIfInBounds_toArray, List.set_cons_zero, List.set_cons_succ])
  refine wpAnyH_take (i := 2) (v := .bool true) rfl (by kernel_rfl) (by kernel_rfl) (by kernel_rfl) (fun _ _ _ h => h) (Or.inl ⟨by rfl, ?_⟩) (by assumption) ?_
  · (intro w hSw; (try dsimp only at hSw); go_simp)
  (try simp only [Act.put, List.getElem_toArray, List.getElem_cons_succ, List.getElem_cons_zero, List.setIfInBounds_toArray, List.set_cons_zero, List.set_cons_succ])
  refine wpAnyH_take (i := 3) (v := .int .i64 (P : Int)) rfl (by kernel_rfl) (by kernel_rfl) (by kernel_rfl) (fun _ _ _ h => h) (Or.inl ⟨by rfl, ?_⟩) (by assumption) ?_
  · (intro w hSw; (try dsimp only at hSw); go_simp)
  (try simp only [Act.put, List.getElem_toArray, List.getElem_cons_succ, List.getElem_cons_zero, List.setIfInBounds_toArray, List.set_cons_zero, List.set_cons_succ])
  refine wpAnyH_take (i := 4) (v := .bool true) rfl (by kernel_rfl) (by kernel_rfl) (by kernel_rfl) (fun _ _ _ h => h) (Or.inl ⟨by rfl, ?_⟩) (by assumption) ?_
  · (intro w hSw; (try dsimp only at hSw); go_simp)
  (try simp only [Act.put, List.getElem_toArray, List.getElem_cons_succ, List.getElem_cons_zero, List.setIfInBounds_toArray, List.set_cons_zero, List.set_cons_succ])
  refine wpAnyH_take (i := 5) (v := .bool true) rfl (by kernel_rfl) (by kernel_rfl) (by kernel_rfl) (fun _ _ _ h => h) (Or.inl ⟨by rfl, ?_⟩) (by assumption) ?_
  · (intro w hSw; (try dsimp only at hSw); go_simp)
  (try simp only [Act.put, List.getElem_toArray, List.getElem_cons_succ, List.getElem_cons_zero, List.setIfInBounds_toArray, List.set_cons_zero, List.set_cons_succ])
  refine wpAnyH_take (i := 6) (v := .bool true) rfl (by kernel_rfl) (by kernel_rfl) (by kernel_rfl) (fun _ _ _ h => h) (Or.inl ⟨by rfl, ?_⟩) (by assumption) ?_
  · (intro w hSw; (try dsimp only at hSw); go_simp)
  (try simp only [Act.put, List.getElem_toArray, List.getElem_cons_succ, List.getElem_cons_zero, List.setIfInBounds_toArray, List.set_cons_zero, List.set_cons_succ])
  refine wpAnyH_take (i := 7) (v := .int .i64 (P : Int)) rfl (by kernel_rfl) (by kernel_rfl) (by kernel_rfl) (fun _ _ _ h => h) (Or.inl ⟨by rfl, ?_⟩) (by assumption) ?_
  · (intro w hSw; (try dsimp only at hSw); go_simp)
  (try simp only [Act.put, List.getElem_toArray, List.getElem_cons_succ, List.getElem_cons_zero, List.setIfInBounds_toArray, List.set_cons_zero, List.set_cons_succ])
  refine wpAnyH_take (i := 8) (v := .slice (some ⟨vb, vo, none⟩) l.length vc_) rfl (by kernel_rfl) (by kernel_rfl) (by kernel_rfl) (fun _ _ _ h => h) (Or.inl ⟨by rfl, ?_⟩) (by assumption) ?_
  · (intro w hSw; (try dsimp only at hSw); go_simp)
  (try simp only [Act.put, List.getElem_toArray, List.getElem_cons_succ, List.getElem_cons_zero, List.setIfInBounds_toArray, List.set_cons_zero, List.set_cons_succ])
  refine wpAnyH_take (i := 9) (v := .int .i64 (l.length : Int)) rfl (by kernel_rfl) (by kernel_rfl) (by kernel_rfl) (fun _ _ _ h => h) (Or.inl ⟨by rfl, ?_⟩) (by assumption) ?_
  · (intro w hSw; (try dsimp only at hSw); go_simp)
  (try simp only [Act.put, List.getElem_toArray, List.getElem_cons_succ, List.getElem_cons_zero, List.setIfInBounds_toArray, List.set_cons_zero, List.set_cons_succ])
  refine wpAnyH_take (i := 10) (v := .bool true) rfl (by kernel_rfl) (by kernel_rfl) (by kernel_rfl) (fun _ _ _ h => h) (Or.inl ⟨by rfl, ?_⟩) (by assumption) ?_
  · (intro w hSw; (try dsimp only at hSw); go_simp)
  (try simp only [Act.put, List.getElem_toArray, List.getElem_cons_succ, List.getElem_cons_zero, List.setIfInBounds_toArray, List.set_cons_zero, List.set_cons_succ])
  refine wpAnyH_take (i := 11) (v := .bool true) rfl (by kernel_rfl) (by kernel_rfl) (by kernel_rfl) (fun _ _ _ h => h) (Or.inl ⟨by rfl, ?_⟩) (by assumption) ?_
  · (intro w hSw; (try dsimp only at hSw); go_simp)
  (try simp only [Act.put, List.getElem_toArray, List.getElem_cons_succ, List.getElem_cons_zero, List.setIfInBounds_toArray, List.set_cons_zero, List.set_cons_succ])
  refine wpAnyH_take (i := 12) (v := .bool true) rfl (by kernel_rfl) (by kernel_rfl) (by kernel_rfl) (fun _ _ _ h => h) (Or.inl ⟨by rfl, ?_⟩) (by assumption) ?_
  · (intro w hSw; (try dsimp only at hSw); go_simp)
  (try simp only [Act.put, List.getElem_toArray, List.getElem_cons_succ, List.getElem_cons_zero, List.setIfInBounds_toArray, List.set_cons_zero, List.set_cons_succ])
  refine wpAnyH_take (i := 13) (v := .slice (some ⟨lb, lo, none⟩) len cap) rfl (by kernel_rfl) (by kernel_rfl) (by kernel_rfl) (fun _ _ _ h => h) (Or.inl ⟨by rfl, ?_⟩) (by assumption) ?_
  · (intro w hSw; (try dsimp only at hSw); go_simp)
  (try simp only [Act.put, List.getElem_toArray, List.getElem_cons_succ, List.getElem_cons_zero, List.setIfInBounds_toArray, List.set_cons_zero, List.set_cons_succ])
  refine wpAnyH_take (i := 14) (v := .int .i64 (P : Int)) rfl (by kernel_rfl) (by kernel_rfl) (by kernel_rfl) (fun _ _ _ h => h) (Or.inl ⟨by rfl, ?_⟩) (by assumption) ?_
  · (intro w hSw; (try dsimp only at hSw); go_simp)
  (try simp only [Act.put, List.getElem_toArray, List.getElem_cons_succ, List.getElem_cons_zero, List.setIfInBounds_toArray, List.set_cons_zero, List.set_cons_succ])
  refine wpAnyH_take (i := 15) (v := .pointer (some ⟨lb, lo + P * 7, none⟩)) rfl (by kernel_rfl) (by kernel_rfl) (by kernel_rfl) (fun _ _ _ h => h) (Or.inl ⟨by rfl, ?_⟩) (by assumption) ?_
  · (intro w hSw; (try dsimp only at hSw); go_simp)
  (try simp only [Act.put, List.getElem_toArray, List.getElem_cons_succ, List.getElem_cons_zero, List.setIfInBounds_toArray, List.set_cons_zero, List.set_cons_succ])
  refine wpAnyH_take (i := 16) (v := .pointer (some ⟨lb, lo + P * 7 + 5, none⟩)) rfl (by kernel_rfl) (by kernel_rfl) (by kernel_rfl) (fun _ _ _ h => h) (Or.inl ⟨by rfl, ?_⟩) (by assumption) ?_
  · (intro w hSw; (try dsimp only at hSw); go_simp)
  (try simp only [Act.put, List.getElem_toArray, List.getElem_cons_succ, List.getElem_cons_zero, List.setIfInBounds_toArray, List.set_cons_zero, List.set_cons_succ])
  refine wpAnyH_take (i := 17) (v := .agg #[.int .i64 q6, .int .i64 q7]) rfl (by kernel_rfl) (by kernel_rfl) (by kernel_rfl) (fun _ _ _ h => h) (Or.inl ⟨by rfl, ?_⟩) (by assumption) ?_
  · (intro w hSw; (try dsimp only at hSw); go_simp)
  (try simp only [Act.put, List.getElem_toArray, List.getElem_cons_succ, List.getElem_cons_zero, List.setIfInBounds_toArray, List.set_cons_zero, List.set_cons_succ])
  refine wpAnyH_take (i := 18) (v := .slice (some ⟨vb, vo, none⟩) l.length vc_) rfl (by kernel_rfl) (by kernel_rfl) (by kernel_rfl) (fun _ _ _ h => h) (Or.inl ⟨by rfl, ?_⟩) (by assumption) ?_
  · (intro w hSw; (try dsimp only at hSw); go_simp)
  (try simp only [Act.put, List.getElem_toArray, List.getElem_cons_succ, List.getElem_cons_zero, List.setIfInBounds_toArray, List.set_cons_zero, List.set_cons_succ])
  refine wpAnyH_take (i := 19) (v := .int .i64 (P : Int)) rfl (by kernel_rfl) (by kernel_rfl) (by kernel_rfl) (fun _ _ _ h => h) (Or.inl ⟨by rfl, ?_⟩) (by assumption) ?_
  · (intro w hSw; (try dsimp only at hSw); go_simp)
  (try simp only [Act.put, List.getElem_toArray, List.getElem_cons_succ, List.getElem_cons_zero, List.setIfInBounds_toArray, List.set_cons_zero, List.set_cons_succ])
  refine wpAnyH_take (i := 20) (v := .pointer (some ⟨vb, vo + P * 2, none⟩)) rfl (by kernel_rfl) (by kernel_rfl) (by kernel_rfl) (fun _ _ _ h => h) (Or.inl ⟨by rfl, ?_⟩) (by assumption) ?_
  · (intro w hSw; (try dsimp only at hSw); go_simp)
  (try simp only [Act.put, List.getElem_toArray, List.getElem_cons_succ, List.getElem_cons_zero, List.setIfInBounds_toArray, List.set_cons_zero, List.set_cons_succ])
  refine wpAnyH_take (i := 21) (v := .agg #[.int .i64 v1, .int .i64 v2]) rfl (by kernel_rfl) (by kernel_rfl) (by kernel_rfl) (fun _ _ _ h => h) (Or.inl ⟨by rfl, ?_⟩) (by assumption) ?_
  · (intro w hSw; (try dsimp only at hSw); go_simp)
  (try simp only [Act.put, List.getElem_toArray, List.getElem_cons_succ, List.getElem_cons_zero, List.setIfInBounds_toArray, List.set_cons_zero, List.set_cons_succ])
  refine wpAnyH_ready (rs := [22]) (by kernel_rfl) (by simp) ?_
  refine AllReadyH.cons rfl (fun K hK => ?_) AllReadyH.nil
  go_simp
  refine (FI.out _).mono ?_
  rintro e y1 ⟨rfl, b4⟩
  replace rg_e5 := keepc b4 rg_e5
  replace rg_e6b := keepc b4 rg_e6b
  replace rg_e6 := keepc b4 rg_e6
  replace rg_r0 := keepc b4 rg_r0
  replace rg_r1 := keepc b4 rg_r1
  refine hK.out _ _ ⟨rg_e5, rg_e6b, rg_e6, rg_r0, rg_r1⟩ (fun hHeld => ?_)
  clear hK K
  (try simp only [Act.put, List.getElem_toArray, List.getElem_cons_succ, List.getElem_cons_zero, List.setIfInBounds_toArray, List.set_cons_zero, List.set_cons_succ])
  refine wpAnyH_take (i := 23) (v := .bool FB) rfl (by kernel_rfl) (by kernel_rfl) (by kernel_rfl) (fun _ _ _ h => h) (Or.inl ⟨by rfl, ?_⟩) (by assumption) ?_
  · (intro w hSw; (try dsimp only at hSw); go_simp)
  (try simp only [Act.put, List.getElem_toArray, List.getElem_cons_succ, List.getElem_cons_zero, List.setIfInBounds_toArray, List.set_cons_zero, List.set_cons_succ])
  refine wpAnyH_take (i := 24) (v := .bool FB) rfl (by kernel_rfl) (by kernel_rfl) (by kernel_rfl) (fun _ _ _ h => h) (Or.inl ⟨by rfl, ?_⟩) (by assumption) ?_
  · (intro w hSw; (try dsimp only at hSw); go_simp)
  (try simp only [Act.put, List.getElem_toArray, List.getElem_cons_succ, List.getElem_cons_zero, List.setIfInBounds_toArray, List.set_cons_zero, List.set_cons_succ])
  refine wpAnyH_done (by kernel_rfl) ?_ _
  clear hHeld rg_e5 rg_e6b rg_e6 rg_r0 rg_r1
  have B4 := hid (B3.out.trans (((Below.refl w3.heap.size w3).drew.trans (b4.mono (by simp))).mono B3.out.size))
  go_wp2
  go_ret
  exact ⟨ret_b V2.out, B4.out⟩
end Go.Proofs.Ytdbkjcnanffibaa

namespace Go.Proofs.Ytdbkjcnanffibaa
open Go.RowKit Go.Deep Go.Maps Go.Shelf
set_option linter.unusedVariables false
set_option linter.unusedSimpArgs false

theorem HoldsE.takeL {w : World} {a : Option Addr} {len cap p : Nat} {l : List Le} (h : HoldsE 8 Le.cs w a len cap l) (hp : p ≤ len) (h0 : 0 < len) : HoldsE 8 Le.cs w a p cap (l.take p) := by
  obtain ⟨h1, h2, h3, h4, h5⟩ := h
  obtain ⟨b', off', e, hlt, hc⟩ := h5 h0
  subst e
  refine ⟨by rw [List.length_take]; omega, by omega, h3, (fun e => by cases e), fun hq => ?_⟩
  refine ⟨_, _, rfl, hlt, fun j x hx i v hv => hc j x ?_ i v hv⟩
  rw [List.getElem?_take] at hx
  split at hx
  · exact hx
  · cases hx
theorem HoldsE.dropL {w : World} {b off len cap p : Nat} {l : List Le} (h : HoldsE 8 Le.cs w (some ⟨b, off, none⟩) len cap l) (hp : p ≤ len) : HoldsE 8 Le.cs w (some ⟨b, off + p * 8, none⟩) (len - p) (cap - p) (l.drop p) := by
  obtain ⟨h1, h2, h3, h4, h5⟩ := h
  refine ⟨by rw [List.length_drop]; omega, by omega, by omega, (fun e => by cases e), fun hq => ?_⟩
  obtain ⟨b', off', e, hlt, hc⟩ := h5 (by omega)
  cases e
  refine ⟨_, _, rfl, hlt, fun j x hx i v hv => ?_⟩
  rw [List.getElem?_drop] at hx
  have := hc (p + j) x hx i v hv
  rw [show off + p * 8 + j * 8 + i = off + (p + j) * 8 + i by omega]
  exact this

set_option maxRecDepth 100000 in
set_option maxHeartbeats 4000000 in
theorem without_any (b off len cap : Nat) (l : List Le) (i : Nat) (w : World) (h : HoldsE 8 Le.cs w (some ⟨b, off, none⟩) len cap l) (hi : i < len) (hn : len ≤ 1000) :
    Calls Try.prog 14 #[.slice (some ⟨b, off, none⟩) len cap, .int .i64 (i : Int)] w fun e w' => ∃ v, e = .returned v ∧ OwnE 38 8 Le.cs w.heap.size w' v (wo l i).length (wo l i) ∧ Below w.heap.size w w' := by
  have HL := hid h.1
  have hcap := h.2.1
  have hcm := h.2.2.1
  have TK := hid (h.takeL (Nat.le_of_lt hi) (by omega))
  have BA : Hid (Below w.heap.size w (w.alloc (.cells #[] 38))) := (Below.refl _ w).alloc (Nat.le_refl _) _
  have OL : Hid (OwnE 38 8 Le.cs w.heap.size (w.alloc (.cells #[] 38)) (.slice (some ⟨w.heap.size, 0, none⟩) 0 0) 0 []) := OwnE.lit _ _ _ w
  have TK1 := hid (TK.out.below BA.out)
  have EW : Hid (wo l i = l.take i ++ l.drop (i + 1)) := rfl
  have LT : (l.take i).length = i := by rw [List.length_take, HL.out]; omega
  have LD : (l.drop (i + 1)).length = len - (i + 1) := by rw [List.length_drop, HL.out]
  have LW : Hid ((wo l i).length = i + (len - (i + 1))) := by unfold Hid wo; rw [List.length_append, LT, LD]
  have pa : (0 : Int) ≤ (i : Int) := by omega
  have pb : (i : Int) ≤ (cap : Int) := by omega
  have pa2 : (0 : Int) ≤ (i : Int) + 1 := by omega
  have pb2 : (i : Int) + 1 ≤ (len : Int) := by omega
  have pc2 : (len : Int) ≤ (cap : Int) := by omega
  have pd2 : ((i : Int) + 1).toNat = i + 1 := by omega
  have pf : ¬ ((len : Int) < (i : Int) + 1) := by omega
  have pg : ¬ ((cap : Int) < (i : Int)) := by omega
  have pw : IntKind.i64.wrap ((i : Int) + 1) = (i : Int) + 1 := by rw [IntKind.wrap_i64]; omega
  have pw0 : IntKind.i64.wrap (i : Int) = (i : Int) := by rw [IntKind.wrap_i64]; omega
  have ph : (0 ≤ (i : Int) + 1 → (len : Int) < (i : Int) + 1) = False := by simp; omega
  by_cases hcp : cap = i + 1
  · obtain rfl : len = cap := by omega
    subst hcp
    have ED : Hid (l.drop (i + 1) = []) := List.drop_of_length_le (by rw [HL.out]; omega)
    have D3 : Hid (∀ W, HoldsE 8 Le.cs W (some ⟨b, off, none⟩) 0 0 []) := fun W => ⟨rfl, Nat.le_refl _, by omega, (fun e => by cases e), fun h => absurd h (by omega)⟩
    clear h TK LT LD
    go_enter Try.func14, Try.ntmps14
    go_wp2_with (at_builtin; refine cat_ownE 22 38 _ 80 Le.cs_len Le.one Try.underlying22 infoLe rfl (by decide) _ rfl (.tmp 6) (.tmp 9) rfl w.heap.size 0 _ [] rfl OL.out BA.out.size (some ⟨b, off, none⟩) i (i + 1) (l.take i) rfl TK1.out (by omega) (by omega) ?_)
    intro v1 w1 h1 h2 _
    have O1 := hid h1
    have B1 := hid (BA.out.trans h2)
    clear h1 h2 TK1 OL
    go_wp2_with (at_builtin; refine cat_ownE 22 38 _ 80 Le.cs_len Le.one Try.underlying22 infoLe rfl (by decide) _ rfl (.tmp 11) (.tmp 15) rfl w.heap.size i _ (l.take i) rfl O1.out B1.out.size (some ⟨b, off, none⟩) 0 0 [] rfl (D3.out _) (by omega) (by omega) ?_)
    intro v2 w2 h1 h2 _
    have O2 := hid h1
    have B2 := hid (B1.out.trans h2)
    clear h1 h2
    go_wp2_with fail
    go_ret
    refine ⟨_, rfl, ?_, B2.out⟩
    rw [LW.out, EW.out, ED.out, List.append_nil, show i + (i + 1 - (i + 1)) = i by omega]
    exact O2.out
  · have hcp' : ¬ i + 1 = cap := fun e => hcp e.symm
    have D3 := hid (h.dropL (show i + 1 ≤ len by omega))
    clear TK LT LD
    go_enter Try.func14, Try.ntmps14
    go_wp2_with (at_builtin; refine cat_ownE 22 38 _ 80 Le.cs_len Le.one Try.underlying22 infoLe rfl (by decide) _ rfl (.tmp 6) (.tmp 9) rfl w.heap.size 0 _ [] rfl OL.out BA.out.size (some ⟨b, off, none⟩) i cap (l.take i) rfl TK1.out (by omega) (by omega) ?_)
    intro v1 w1 h1 h2 _
    have O1 := hid h1
    have B1 := hid (BA.out.trans h2)
    clear h1 h2 TK1 OL h
    go_wp2_with (at_builtin; refine cat_ownE 22 38 _ 80 Le.cs_len Le.one Try.underlying22 infoLe rfl (by decide) _ rfl (.tmp 11) (.tmp 15) rfl w.heap.size i _ (l.take i) rfl O1.out B1.out.size (some ⟨b, off + (i + 1) * 8, none⟩) (len - (i + 1)) (cap - (i + 1)) (l.drop (i + 1)) rfl (D3.out.below B1.out) (by omega) (by omega) ?_)
    intro v2 w2 h1 h2 _
    have O2 := hid h1
    have B2 := hid (B1.out.trans h2)
    clear h1 h2
    go_wp2_with fail
    go_ret
    refine ⟨_, rfl, ?_, B2.out⟩
    rw [LW.out, EW.out]
    exact O2.out
end Go.Proofs.Ytdbkjcnanffibaa
