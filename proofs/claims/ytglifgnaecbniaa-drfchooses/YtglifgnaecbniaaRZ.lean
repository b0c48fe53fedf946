/-
  'append' as one operation; uses with one more; Room and Sums with it.
-/
import Derived.Test.YtglifgnaecbniaaRY
import Derived.Test.YtglifgnaecbniaaRX
namespace Go.Proofs.Ytglifgnaecbniaa
open Go.RowKit Go.Deep Go.Maps Go.Shelf
set_option linter.unusedVariables false

section
variable {α : Type} {k : Nat} {enc : α → List Value} {o : Oper} {a : Act} {K : Act → World → Prop} {Q : Exit → Act → World → Prop}
theorem cat_op (T e : TypeId) (z : Value) (bytes : Nat) (hk : ∀ x, (enc x).length = k) (h1 : ∀ x, ∀ u ∈ enc x, u.oneCell' = true) (hT : Try.prog.underlying T = some (.slice e)) (hI : (Try.prog.info? e).map (fun i => (i.zero, i.size, i.bytes)) = some (some z, k, bytes)) (hz : z.cells.size = k) (hk0 : 0 < k)
    (wr : World) (s y : Operand) (hop : o.op = Op.call { callee := Callee.builtin Builtin.append, args := #[s, y], argTypes := #[T, T] })
    (base n : Nat) (v : Value) (l : List α) (hs : a.eval s = v) (hown : OwnE e k enc base wr v n l) (hb : base ≤ wr.heap.size) (ao : Option Addr) (m c : Nat) (p : List α) (hx : a.eval y = .slice ao m c) (hp : HoldsE k enc wr ao m c p) (b0 : n + m ≤ 9223372036854775807) (b1 : (n + m) * bytes ≤ 140737488355328)
    (hK : ∀ v' w', OwnE e k enc base w' v' (n + m) (l ++ p) → Below base wr w' → wr.grownBy w' v.ownBlock → K (a.put o.dst v') w') :
    o.wp Try.prog a wr K Q := by
  obtain ⟨i0, hi, hz0, hz1, hz2⟩ := info_parts hI
  obtain ⟨p1, p2, p3, p6, p7⟩ := hp
  have hrow : ∀ g, v.ownBlock = some g → base ≤ g := fun g hk => (hown.lt g hk).1
  by_cases hm : 0 < m
  · obtain ⟨b, off, rfl, hlt, hc⟩ := p7 hm
    refine wp_append_own wr s y T hop base e i0 z k bytes hT hi hz0 hz1 hz2 hz hk0 v n _ hs hown.2 ⟨b, off, none⟩ m c (p.flatMap enc) hx (by rw [flat_len hk, p1]) ?_ ?_ (by unfold maxLen; omega) b1 hb ?_
    · intro j u hj
      obtain ⟨j', x, i, rfl, hx, hu⟩ := flat_inv hk _ _ _ hj
      rw [Addr.add_lit, ← Nat.add_assoc]
      exact hc j' x hx i u hu
    · intro u hu
      obtain ⟨x, _, hx⟩ := List.mem_flatMap.1 hu
      exact h1 x u hx
    · intro v' w' h1 h2 _
      exact hK v' w' ⟨by simp [hown.len, p1], by simpa using h1⟩ ((Below.refl base wr).grown h2 hb hrow) h2
  · obtain rfl : m = 0 := by omega
    obtain rfl : p = [] := List.length_eq_zero_iff.1 p1
    cases ao with
    | none =>
      obtain ⟨_, rfl⟩ := p6 rfl
      have hrun := run_append_owned_none (P := Try.prog) (w := wr) base T o.type e i0 k hT hi v n _ hown.2
      unfold Oper.wp
      simp [execOp, hop, resolve, invoke, builtin, hs, hx, hrun, Result.andThen]
      exact hK v wr (by simpa using hown) (Below.refl _ _) (World.grownBy.refl _ _)
    | some ad =>
      refine wp_append_own wr s y T hop base e i0 z k bytes hT hi hz0 hz1 hz2 hz hk0 v n _ hs hown.2 ad 0 c [] hx (by simp) (by simp) (by simp) (by unfold maxLen; omega) b1 hb ?_
      intro v' w' h1 h2 _
      exact hK v' w' ⟨by simp [hown.len], by simpa using h1⟩ ((Below.refl base wr).grown h2 hb hrow) h2
end

theorem infoU : (Try.prog.info? 46).map (fun i => (i.zero, i.size, i.bytes)) = some (some (.agg #[.int .i64 0, .int .i64 0, .int .i64 0]), 3, 24) := by kernel_rfl
abbrev OwnU (base : Nat) (w : World) (v : Value) (n : Nat) (l : List Us) : Prop := OwnE 46 3 Us.cs base w v n l
/-- A literal of one use. -/
theorem lit_use (w : World) (x y z : Int) : HoldsU (w.alloc (.cells #[.int .i64 x, .int .i64 y, .int .i64 z] 46)) (some ⟨w.heap.size, 0, none⟩) 1 1 [⟨x, y, z⟩] := by
  refine ⟨rfl, Nat.le_refl _, by omega, (fun e => by cases e), fun _ => ⟨w.heap.size, 0, rfl, by simp, fun j u hu i v hv => ?_⟩⟩
  match j, hu with
  | 0, hu =>
    simp at hu
    subst hu
    match i, hv with
    | 0, hv => simp [Us.cs] at hv; subst hv; simp [go_sem]
    | 1, hv => simp [Us.cs] at hv; subst hv; simp [go_sem]
    | 2, hv => simp [Us.cs] at hv; subst hv; simp [go_sem]
theorem HoldsE.grown {α : Type} {k : Nat} {enc : α → List Value} {w w' : World} {b off len cap : Nat} {l : List α} {row : Option Nat} (h : HoldsE k enc w (some ⟨b, off, none⟩) len cap l) (hg : w.grownBy w' row) (hb : b < w.heap.size) (hr : some b ≠ row) : HoldsE k enc w' (some ⟨b, off, none⟩) len cap l :=
  h.moved (fun x o v hx hc => by subst hx; exact (World.cell?_of_block (w := w) (hg.block _ hb hr)).trans hc) hg.size

/-- Where there is room, the sums with it are right. -/
theorem usesE_zero {l : List Qu} : ∀ {us : List Us}, usesE l us = 0 → ∀ u ∈ us, useE l u = 0 := by
  intro us
  induction us with
  | nil => intro _ u hu; cases hu
  | cons x r ih =>
    intro h u hu
    unfold usesE at h
    split at h
    · rename_i hx; exact absurd h hx
    · rename_i hx
      rcases List.mem_cons.1 hu with rfl | hu
      · exact Decidable.of_not_not hx
      · exact ih h u hu
theorem vecAt_more (l : List Qu) (us : List Us) (leaf mc mm : Int) (i : Nat) : vecAt l (us ++ [⟨leaf, mc, mm⟩]) i = ((vecAt l us i).1 + (if i ∈ pth l (pl l leaf) then mc else 0), (vecAt l us i).2 + (if i ∈ pth l (pl l leaf) then mm else 0)) := by
  unfold vecAt
  rw [sumU_snoc, sumU_snoc]
theorem room_then_sums {l : List Qu} {us : List Us} {leaf mc mm : Int} (h : roomE l us leaf mc mm = 0) : sumsE l (us ++ [⟨leaf, mc, mm⟩]) = 0 := by
  unfold roomE at h
  split at h
  · rename_i h1; exact absurd h h1
  · rename_i h1
    split at h
    · rename_i h2; exact absurd h h2
    · rename_i h2
      split at h
      · rename_i h3
        have hS := Decidable.of_not_not h1
        have hU := Decidable.of_not_not h2
        have hC := (sumsE_zero hS).1
        have hA : ∀ u ∈ us ++ [⟨leaf, mc, mm⟩], useE l u = 0 := fun u hu => by
          rcases List.mem_append.1 hu with hu | hu
          · exact sums_right hS u hu
          · simp at hu; rw [hu]; exact hU
        have hF : fitsB l (us ++ [⟨leaf, mc, mm⟩]) = true := fitsB_yes (fun i hi => by
          have ho := okv_true (fits_at (sumsE_zero hS).2 hi)
          rw [vecAt_more]
          obtain ⟨_, _, hc, hm⟩ := useE_zero hU
          by_cases e : i ∈ pth l (pl l leaf)
          · rw [if_pos e, if_pos e]
            rw [List.all_eq_true] at h3
            have hf := h3 i e
            have hq := okv_true (arg_at (chkE_ok.1 hC).2.2.1 (qa_mem hi)).2.1
            unfold fitAt fitB at hf
            simp at hf
            unfold okp at ho hq hc hm
            unfold okv okp
            simp only at *
            simp only [decide_eq_true_eq]
            omega
          · rw [if_neg e, if_neg e]
            simpa using fits_at (sumsE_zero hS).2 hi)
        unfold sumsE
        rw [if_neg (by rw [hC]; decide), if_neg (by rw [usesE_good hA]; decide), if_neg (by rw [hF]; decide)]
      · omega
theorem sums_then {l : List Qu} {us : List Us} {leaf mc mm : Int} (h : sumsE l (us ++ [⟨leaf, mc, mm⟩]) = 0) : sumsE l us = 0 ∧ useE l ⟨leaf, mc, mm⟩ = 0 := by
  have hA := sums_right h
  have hC := (sumsE_zero h).1
  have hF := (sumsE_zero h).2
  have hA' : ∀ u ∈ us, useE l u = 0 := fun u hu => hA u (List.mem_append_left _ hu)
  refine ⟨?_, hA _ (by simp)⟩
  have hF' : fitsB l us = true := fitsB_yes (fun i hi => by
    have := fits_take hA us.length (fits_at hF hi)
    rwa [List.take_left'] at this
    rfl)
  unfold sumsE
  rw [if_neg (by rw [hC]; decide), if_neg (by rw [usesE_good hA']; decide), if_neg (by rw [hF']; decide)]
/-- Do the sums of the first k fit, of those on the way? -/
def fitsK (l : List Qu) (us : List Us) (P : Nat) (mc mm : Int) (k : Nat) : Bool := (List.range k).all (fun i => !(decide (i ∈ pth l P)) || fitAt l us mc mm i)
theorem fitsK_succ (l : List Qu) (us : List Us) (P : Nat) (mc mm : Int) (k : Nat) : fitsK l us P mc mm (k + 1) = (fitsK l us P mc mm k && (!(decide (k ∈ pth l P)) || fitAt l us mc mm k)) := by
  unfold fitsK; rw [List.range_succ, List.all_append]; simp
theorem fitsK_all {l : List Qu} {us : List Us} {P : Nat} {mc mm : Int} (hP : P < l.length) : fitsK l us P mc mm l.length = (pth l P).all (fitAt l us mc mm) := by
  rw [Bool.eq_iff_iff]
  unfold fitsK
  rw [List.all_eq_true, List.all_eq_true]
  constructor
  · intro h i hi
    have := h i (List.mem_range.2 (pth_ltR hP hi))
    simpa [hi] using this
  · intro h i _
    by_cases e : i ∈ pth l P
    · simp [e, h i e]
    · simp [e]

end Go.Proofs.Ytglifgnaecbniaa
