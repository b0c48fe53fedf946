/-
  Contracts of queue: Room.
  QueueTotals' lists: what is added up step by step.
  Contracts of queue: Room of a right use; Room whole.
  'append' as one operation; uses with one more; Room and Sums with it.
-/
import Derived.Test.YtglifgnaecbniaaRU
import Derived.Test.YtglifgnaecbniaaRQ
import Derived.Test.YtglifgnaecbniaaRR
import Derived.Test.YtglifgnaecbniaaRS
import Derived.Test.YtglifgnaecbniaaQS
namespace Go.Proofs.Ytglifgnaecbniaa
open Go.RowKit Go.Deep Go.Maps Go.Shelf
set_option linter.unusedVariables false
set_option linter.unusedSimpArgs false
end Go.Proofs.Ytglifgnaecbniaa

namespace Go.Proofs.Ytglifgnaecbniaa
open Go.RowKit Go.Deep
set_option linter.unusedVariables false

theorem neqv_same (a b : Int) (w : World) : Sem.run Try.prog (binOp BinOp.neq 26 (.agg #[.int .i64 a, .int .i64 b]) (.agg #[.int .i64 a, .int .i64 b])) w = .ok (.bool false) w := by
  have hS2 : Try.prog.underlying 26 = some (.struct (Try.prog.fieldsOf 26)) := by kernel_rfl
  have hp2 : Try.prog.stoodInHeld 26 = false := by kernel_rfl
  have u2 := Try.underlying2
  have a2 := Try.isAgg2
  have z2 := Try.sizeOf2
  rw [run_neq_struct, show (10000 : Nat) = 9999 + 1 from rfl, run_equalIn_agg w 9999 26 _ _ hS2 hp2]
  simp only [Program.fieldsOf, Try.underlying26]
  go_simp

/-- Sums of right uses: all of them are right. -/
theorem sums_right {l : List Qu} {us : List Us} (h : sumsE l us = 0) : ∀ u ∈ us, useE l u = 0 := by
  rcases uses_split (l := l) (us := us) with hA | ⟨K, h1, h2, h3⟩
  · exact hA
  · exfalso
    have hC := (sumsE_zero h).1
    unfold sumsE at h
    rw [if_neg (by rw [hC]; decide), usesE_bad h1 h2 h3, if_pos h3] at h
    exact h3 h
/-- All that has come is the root's. -/
theorem all_step {l : List Qu} {us : List Us} (hF : Form l) (hA : ∀ u ∈ us, useE l u = 0) {k : Nat} (hk : k < us.length) : vecAt l (us.take (k + 1)) 0 = ((vecAt l (us.take k) 0).1 + (ua us k).uc, (vecAt l (us.take k) 0).2 + (ua us k).um) := by
  have hz := useE_zero (hA _ (ua_mem hk))
  rw [vecAt_snoc hk, if_pos (root_way hF _ (of_decide_eq_true hz.1)), if_pos (root_way hF _ (of_decide_eq_true hz.1))]
/-- A queue's own uses. -/
def ownAt (l : List Qu) (us : List Us) (i : Nat) : Int × Int := if leafB l (qa l i).id = true then vecAt l us i else (0, 0)
theorem own_step {l : List Qu} {us : List Us} (hF : Form l) (hA : ∀ u ∈ us, useE l u = 0) {i k : Nat} (hi : i < l.length) (hk : k < us.length) : ownAt l (us.take (k + 1)) i = if (ua us k).qu = (qa l i).id then ((ownAt l (us.take k) i).1 + (ua us k).uc, (ownAt l (us.take k) i).2 + (ua us k).um) else ownAt l (us.take k) i := by
  have hz := useE_zero (hA _ (ua_mem hk))
  have hP : pl l (ua us k).qu < l.length := of_decide_eq_true hz.1
  unfold ownAt
  cases hl : leafB l (qa l i).id
  · have : (ua us k).qu ≠ (qa l i).id := fun e => by rw [← e, hz.2.1] at hl; cases hl
    rw [if_neg this]
    rfl
  · simp only [if_pos]
    rw [vecAt_snoc hk]
    have hiff : i ∈ pth l (pl l (ua us k).qu) ↔ (ua us k).qu = (qa l i).id := by
      rw [leaf_way hF hi hl hP]
      constructor
      · intro e; rw [e]; exact (pl_id hP).symm
      · intro e; rw [e]; exact (hF.pl hi).symm
    by_cases e : (ua us k).qu = (qa l i).id
    · rw [if_pos e, if_pos (hiff.2 e), if_pos (hiff.2 e)]
    · rw [if_neg e, if_neg (fun h => e (hiff.1 h)), if_neg (fun h => e (hiff.1 h))]; simp
theorem own_ok {l : List Qu} {us : List Us} (hA : ∀ u ∈ us, useE l u = 0) (hf : fitsB l us = true) {i : Nat} (hi : i < l.length) (k : Nat) : okv (ownAt l (us.take k) i) = true := by
  unfold ownAt
  split
  · exact fits_take hA k (fits_at hf hi)
  · decide
/-- What the first k children use. -/
def kidC (l : List Qu) (us : List Us) (id : Int) (k : Nat) : Int := sumI (fun j => if (qa l j).par = id then (vecAt l us j).1 else 0) k
def kidM (l : List Qu) (us : List Us) (id : Int) (k : Nat) : Int := sumI (fun j => if (qa l j).par = id then (vecAt l us j).2 else 0) k
def kidN (l : List Qu) (id : Int) (k : Nat) : Int := sumI (fun j => if (qa l j).par = id then 1 else 0) k
theorem kid_bound {l : List Qu} {us : List Us} (hf : fitsB l us = true) (id : Int) : ∀ k, k ≤ l.length → 0 ≤ kidC l us id k ∧ kidC l us id k ≤ k * 1099511627776 ∧ 0 ≤ kidM l us id k ∧ kidM l us id k ≤ k * 1099511627776 ∧ 0 ≤ kidN l id k ∧ kidN l id k ≤ k := by
  intro k
  induction k with
  | zero => intro _; simp [kidC, kidM, kidN, sumI]
  | succ k ih =>
    intro hk
    have h0 := ih (by omega)
    have h1 := okv_true (fits_at hf (i := k) (by omega))
    unfold okp at h1
    unfold kidC kidM kidN at *
    simp only [sumI]
    split <;> omega
theorem kidN_zero {l : List Qu} {i : Nat} : kidN l (qa l i).id l.length = 0 ↔ leafB l (qa l i).id = true := by
  have key : ∀ k, k ≤ l.length → 0 ≤ kidN l (qa l i).id k ∧ (kidN l (qa l i).id k = 0 ↔ ∀ j, j < k → ¬ (qa l j).par = (qa l i).id) := by
    intro k
    induction k with
    | zero => intro _; exact ⟨by simp [kidN, sumI], by simp [kidN, sumI]⟩
    | succ k ih =>
      intro hk
      obtain ⟨h1, h2⟩ := ih (by omega)
      unfold kidN at *
      simp only [sumI]
      by_cases e : (qa l k).par = (qa l i).id
      · rw [if_pos e]
        refine ⟨by omega, ⟨fun h => by omega, fun h => absurd e (h k (by omega))⟩⟩
      · rw [if_neg e]
        refine ⟨by omega, ⟨fun h j hj => ?_, fun h => ?_⟩⟩
        · rcases Nat.lt_or_ge j k with hjk | hjk
          · exact h2.1 (by omega) j hjk
          · have : j = k := by omega
            subst this; exact e
        · have := h2.2 (fun j hj => h j (by omega)); omega
  rw [(key l.length (Nat.le_refl _)).2]
  unfold leafB kids
  rw [List.isEmpty_iff, List.filter_eq_nil_iff]
  constructor
  · intro h x _
    simpa using h x.val x.2
  · intro h j hj
    simpa using h ⟨j, hj⟩ (List.mem_finRange _)
theorem kid_all {l : List Qu} {us : List Us} (hF : Form l) (hA : ∀ u ∈ us, useE l u = 0) {i : Nat} (hi : i < l.length) (hk : leafB l (qa l i).id = false) : kidC l us (qa l i).id l.length = (vecAt l us i).1 ∧ kidM l us (qa l i).id l.length = (vecAt l us i).2 :=
  ⟨sum_children hF hi hk Us.uc us hA, sum_children hF hi hk Us.um us hA⟩

end Go.Proofs.Ytglifgnaecbniaa

namespace Go.Proofs.Ytglifgnaecbniaa
open Go.RowKit Go.Deep Go.Maps Go.Shelf
set_option linter.unusedVariables false
set_option linter.unusedSimpArgs false
attribute [local go_sem] Oper.semAt_some

theorem over_fit {C M mc mm D K : Int} (hq : okv (D, K) = true) (h1 : okv (C, M) = true) (h2 : okv (mc, mm) = true) (h : okv (C + mc, M + mm) = false) : fitB (C + mc) (M + mm) D K = false := by
  have a := okv_true hq
  have b := okv_true h1
  have c := okv_true h2
  have d := okv_false h
  unfold okp at a b c d
  simp only at a b c d
  unfold fitB
  simp
  omega

end Go.Proofs.Ytglifgnaecbniaa

namespace Go.Proofs.Ytglifgnaecbniaa
open Go.RowKit Go.Deep Go.Maps Go.Shelf
set_option linter.unusedVariables false

section
variable {α : Type} {k : Nat} {enc : α → List Value} {o : Oper} {a : Act} {K : Act → World → Prop} {Q : Exit → Act → World → Prop}
theorem cat_op (T e : TypeId) (z : Value) (bytes : Nat) (hk : ∀ x, (enc x).length = k) (h1 : ∀ x, ∀ u ∈ enc x, u.oneCell' = true) (hT : Try.prog.underlying T = some (.slice e)) (hI : (Try.prog.info? e).map (fun i => (i.zero, i.size, i.bytes)) = some (some z, k, bytes)) (hz : z.cells.size = k) (hk0 : 0 < k)
    (wr : World) (s y : Operand) (hop : o.op = Op.call { callee := Callee.builtin Builtin.append, args := #[s, y], argTypes := #[T, T] })
    (base n : Nat) (v : Value) (l : List α) (hs : a.eval s = v) (hown : OwnE e k enc base wr v n l) (hb : base ≤ wr.heap.size) (ao : Option Addr) (m c : Nat) (p : List α) (hx : a.eval y = .slice ao m c) (hp : HoldsE k enc wr ao m c p) (b0 : n + m ≤ 9223372036854775807) (b1 : (n + m) * bytes ≤ 140737488355328)
    (hK : ∀ v' w', OwnE e k enc base w' v' (n + m) (l ++ p) → Below base wr w' → wr.grownBy w' v.ownBlock → K (a.put o.dst v') w') :
    o.wp Try.prog a wr K Q := by
  obtain ⟨i0, hi, hz0, hz1, hz2⟩ := info_parts hI
  obtain ⟨p1, p2, p3, p6, p7⟩ := hp
  have hrow : ∀ g, v.ownBlock = some g → base ≤ g := fun g hk => (hown.lt g hk).1
  by_cases hm : 0 < m
  · obtain ⟨b, off, rfl, hlt, hc⟩ := p7 hm
    refine wp_append_own wr s y T hop base e i0 z k bytes hT hi hz0 hz1 hz2 hz hk0 v n _ hs hown.2 ⟨b, off, none⟩ m c (p.flatMap enc) hx (by rw [flat_len hk, p1]) ?_ ?_ (by unfold maxLen; omega) b1 hb ?_
    · intro j u hj
      obtain ⟨j', x, i, rfl, hx, hu⟩ := flat_inv hk _ _ _ hj
      rw [Addr.add_lit, ← Nat.add_assoc]
      exact hc j' x hx i u hu
    · intro u hu
      obtain ⟨x, _, hx⟩ := List.mem_flatMap.1 hu
      exact h1 x u hx
    · intro v' w' h1 h2 _
      exact hK v' w' ⟨by simp [hown.len, p1], by simpa using h1⟩ ((Below.refl base wr).grown h2 hb hrow) h2
  · obtain rfl : m = 0 := by omega
    obtain rfl : p = [] := List.length_eq_zero_iff.1 p1
    cases ao with
    | none =>
      obtain ⟨_, rfl⟩ := p6 rfl
      have hrun := run_append_owned_none (P := Try.prog) (w := wr) base T o.type e i0 k hT hi v n _ hown.2
      unfold Oper.wp
      simp [execOp, hop, resolve, invoke, builtin, hs, hx, hrun, Result.andThen]
      exact hK v wr (by simpa using hown) (Below.refl _ _) (World.grownBy.refl _ _)
    | some ad =>
      refine wp_append_own wr s y T hop base e i0 z k bytes hT hi hz0 hz1 hz2 hz hk0 v n _ hs hown.2 ad 0 c [] hx (by simp) (by simp) (by simp) (by unfold maxLen; omega) b1 hb ?_
      intro v' w' h1 h2 _
      exact hK v' w' ⟨by simp [hown.len], by simpa using h1⟩ ((Below.refl base wr).grown h2 hb hrow) h2
end

theorem infoU : (Try.prog.info? 46).map (fun i => (i.zero, i.size, i.bytes)) = some (some (.agg #[.int .i64 0, .int .i64 0, .int .i64 0]), 3, 24) := by kernel_rfl
abbrev OwnU (base : Nat) (w : World) (v : Value) (n : Nat) (l : List Us) : Prop := OwnE 46 3 Us.cs base w v n l
/-- A literal of one use. -/
theorem lit_use (w : World) (x y z : Int) : HoldsU (w.alloc (.cells #[.int .i64 x, .int .i64 y, .int .i64 z] 46)) (some ⟨w.heap.size, 0, none⟩) 1 1 [⟨x, y, z⟩] := by
  refine ⟨rfl, Nat.le_refl _, by omega, (fun e => by cases e), fun _ => ⟨w.heap.size, 0, rfl, by simp, fun j u hu i v hv => ?_⟩⟩
  match j, hu with
  | 0, hu =>
    simp at hu
    subst hu
    match i, hv with
    | 0, hv => simp [Us.cs] at hv; subst hv; simp [go_sem]
    | 1, hv => simp [Us.cs] at hv; subst hv; simp [go_sem]
    | 2, hv => simp [Us.cs] at hv; subst hv; simp [go_sem]
theorem HoldsE.grown {α : Type} {k : Nat} {enc : α → List Value} {w w' : World} {b off len cap : Nat} {l : List α} {row : Option Nat} (h : HoldsE k enc w (some ⟨b, off, none⟩) len cap l) (hg : w.grownBy w' row) (hb : b < w.heap.size) (hr : some b ≠ row) : HoldsE k enc w' (some ⟨b, off, none⟩) len cap l :=
  h.moved (fun x o v hx hc => by subst hx; exact (World.cell?_of_block (w := w) (hg.block _ hb hr)).trans hc) hg.size

/-- Where there is room, the sums with it are right. -/
theorem usesE_zero {l : List Qu} : ∀ {us : List Us}, usesE l us = 0 → ∀ u ∈ us, useE l u = 0 := by
  intro us
  induction us with
  | nil => intro _ u hu; cases hu
  | cons x r ih =>
    intro h u hu
    unfold usesE at h
    split at h
    · rename_i hx; exact absurd h hx
    · rename_i hx
      rcases List.mem_cons.1 hu with rfl | hu
      · exact Decidable.of_not_not hx
      · exact ih h u hu
theorem vecAt_more (l : List Qu) (us : List Us) (leaf mc mm : Int) (i : Nat) : vecAt l (us ++ [⟨leaf, mc, mm⟩]) i = ((vecAt l us i).1 + (if i ∈ pth l (pl l leaf) then mc else 0), (vecAt l us i).2 + (if i ∈ pth l (pl l leaf) then mm else 0)) := by
  unfold vecAt
  rw [sumU_snoc, sumU_snoc]
theorem room_then_sums {l : List Qu} {us : List Us} {leaf mc mm : Int} (h : roomE l us leaf mc mm = 0) : sumsE l (us ++ [⟨leaf, mc, mm⟩]) = 0 := by
  unfold roomE at h
  split at h
  · rename_i h1; exact absurd h h1
  · rename_i h1
    split at h
    · rename_i h2; exact absurd h h2
    · rename_i h2
      split at h
      · rename_i h3
        have hS := Decidable.of_not_not h1
        have hU := Decidable.of_not_not h2
        have hC := (sumsE_zero hS).1
        have hA : ∀ u ∈ us ++ [⟨leaf, mc, mm⟩], useE l u = 0 := fun u hu => by
          rcases List.mem_append.1 hu with hu | hu
          · exact sums_right hS u hu
          · simp at hu; rw [hu]; exact hU
        have hF : fitsB l (us ++ [⟨leaf, mc, mm⟩]) = true := fitsB_yes (fun i hi => by
          have ho := okv_true (fits_at (sumsE_zero hS).2 hi)
          rw [vecAt_more]
          obtain ⟨_, _, hc, hm⟩ := useE_zero hU
          by_cases e : i ∈ pth l (pl l leaf)
          · rw [if_pos e, if_pos e]
            rw [List.all_eq_true] at h3
            have hf := h3 i e
            have hq := okv_true (arg_at (chkE_ok.1 hC).2.2.1 (qa_mem hi)).2.1
            unfold fitAt fitB at hf
            simp at hf
            unfold okp at ho hq hc hm
            unfold okv okp
            simp only at *
            simp only [decide_eq_true_eq]
            omega
          · rw [if_neg e, if_neg e]
            simpa using fits_at (sumsE_zero hS).2 hi)
        unfold sumsE
        rw [if_neg (by rw [hC]; decide), if_neg (by rw [usesE_good hA]; decide), if_neg (by rw [hF]; decide)]
      · omega
theorem sums_then {l : List Qu} {us : List Us} {leaf mc mm : Int} (h : sumsE l (us ++ [⟨leaf, mc, mm⟩]) = 0) : sumsE l us = 0 ∧ useE l ⟨leaf, mc, mm⟩ = 0 := by
  have hA := sums_right h
  have hC := (sumsE_zero h).1
  have hF := (sumsE_zero h).2
  have hA' : ∀ u ∈ us, useE l u = 0 := fun u hu => hA u (List.mem_append_left _ hu)
  refine ⟨?_, hA _ (by simp)⟩
  have hF' : fitsB l us = true := fitsB_yes (fun i hi => by
    have := fits_take hA us.length (fits_at hF hi)
    rwa [List.take_left'] at this
    rfl)
  unfold sumsE
  rw [if_neg (by rw [hC]; decide), if_neg (by rw [usesE_good hA']; decide), if_neg (by rw [hF']; decide)]
/-- Do the sums of the first k fit, of those on the way? -/
def fitsK (l : List Qu) (us : List Us) (P : Nat) (mc mm : Int) (k : Nat) : Bool := (List.range k).all (fun i => !(decide (i ∈ pth l P)) || fitAt l us mc mm i)
theorem fitsK_succ (l : List Qu) (us : List Us) (P : Nat) (mc mm : Int) (k : Nat) : fitsK l us P mc mm (k + 1) = (fitsK l us P mc mm k && (!(decide (k ∈ pth l P)) || fitAt l us mc mm k)) := by
  unfold fitsK; rw [List.range_succ, List.all_append]; simp
theorem fitsK_all {l : List Qu} {us : List Us} {P : Nat} {mc mm : Int} (hP : P < l.length) : fitsK l us P mc mm l.length = (pth l P).all (fitAt l us mc mm) := by
  rw [Bool.eq_iff_iff]
  unfold fitsK
  rw [List.all_eq_true, List.all_eq_true]
  constructor
  · intro h i hi
    have := h i (List.mem_range.2 (pth_ltR hP hi))
    simpa [hi] using this
  · intro h i _
    by_cases e : i ∈ pth l P
    · simp [e, h i e]
    · simp [e]

end Go.Proofs.Ytglifgnaecbniaa
