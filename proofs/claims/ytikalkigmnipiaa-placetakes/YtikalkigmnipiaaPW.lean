/-
  'append' as one operation.
-/
import Derived.Test.YtikalkigmnipiaaPS

namespace Go.Proofs.Ytikalkigmnipiaa
open Go.RowKit Go.Deep Go.Maps Go.Shelf
set_option linter.unusedVariables false
set_option linter.unusedSimpArgs false

section
variable {α : Type} {k : Nat} {enc : α → List Value} {o : Oper} {a : Act} {K : Act → World → Prop} {Q : Exit → Act → World → Prop}
theorem cat_one (T e : TypeId) (z : Value) (bytes : Nat) (hk : ∀ x, (enc x).length = k) (h1 : ∀ x, ∀ u ∈ enc x, u.oneCell' = true) (hT : Try.prog.underlying T = some (.slice e)) (hI : (Try.prog.info? e).map (fun i => (i.zero, i.size, i.bytes)) = some (some z, k, bytes)) (hz : z.cells.size = k) (hk0 : 0 < k)
    (wr : World) (s y : Operand) (hop : o.op = Op.call { callee := Callee.builtin Builtin.append, args := #[s, y], argTypes := #[T, T] })
    (base n : Nat) (v : Value) (l : List α) (hs : a.eval s = v) (hown : OwnE e k enc base wr v n l) (hb : base ≤ wr.heap.size) (ao : Option Addr) (m c : Nat) (p : List α) (hx : a.eval y = .slice ao m c) (hp : HoldsE k enc wr ao m c p) (b0 : n + m ≤ 9223372036854775807) (b1 : (n + m) * bytes ≤ 140737488355328)
    (hK : ∀ v' w', OwnE e k enc base w' v' (n + m) (l ++ p) → Below base wr w' → wr.grownBy w' v.ownBlock → K (a.put o.dst v') w') :
    o.wp Try.prog a wr K Q := by
  obtain ⟨i0, hi, hz0, hz1, hz2⟩ := info_parts hI
  obtain ⟨p1, p2, p3, p6, p7⟩ := hp
  have hrow : ∀ g, v.ownBlock = some g → base ≤ g := fun g hk => (hown.lt g hk).1
  by_cases hm : 0 < m
  · obtain ⟨b, off, rfl, hlt, hc⟩ := p7 hm
    refine wp_append_own wr s y T hop base e i0 z k bytes hT hi hz0 hz1 hz2 hz hk0 v n _ hs hown.2 ⟨b, off, none⟩ m c (p.flatMap enc) hx (by rw [flat_len hk, p1]) ?_ ?_ (by unfold maxLen; omega) b1 hb ?_
    · intro j u hj
      obtain ⟨j', x, i, rfl, hx, hu⟩ := flat_inv hk _ _ _ hj
      rw [Addr.add_lit, ← Nat.add_assoc]
      exact hc j' x hx i u hu
    · intro u hu
      obtain ⟨x, _, hx⟩ := List.mem_flatMap.1 hu
      exact h1 x u hx
    · intro v' w' h1 h2 _
      exact hK v' w' ⟨by simp [hown.len, p1], by simpa using h1⟩ ((Below.refl base wr).grown h2 hb hrow) h2
  · obtain rfl : m = 0 := by omega
    obtain rfl : p = [] := List.length_eq_zero_iff.1 p1
    cases ao with
    | none =>
      obtain ⟨_, rfl⟩ := p6 rfl
      have hrun := run_append_owned_none (P := Try.prog) (w := wr) base T o.type e i0 k hT hi v n _ hown.2
      unfold Oper.wp
      simp [execOp, hop, resolve, invoke, builtin, hs, hx, hrun, Result.andThen]
      exact hK v wr (by simpa using hown) (Below.refl _ _) (World.grownBy.refl _ _)
    | some ad =>
      refine wp_append_own wr s y T hop base e i0 z k bytes hT hi hz0 hz1 hz2 hz hk0 v n _ hs hown.2 ad 0 c [] hx (by simp) (by simp) (by simp) (by unfold maxLen; omega) b1 hb ?_
      intro v' w' h1 h2 _
      exact hK v' w' ⟨by simp [hown.len], by simpa using h1⟩ ((Below.refl base wr).grown h2 hb hrow) h2
end

/-- The free cores behind those that are taken first. -/
theorem freeT_pair (tk : Nat → Bool) (n : Nat) : (freeT tk n).Pairwise (· < ·) := by
  unfold freeT
  rw [List.pairwise_map]
  refine List.Pairwise.imp ?_ (List.pairwise_lt_range.filter _)
  intro a b h
  exact Int.ofNat_lt.2 h
theorem pair_rise {l : List Int} (h : l.Pairwise (· < ·)) : riseB l = true := by
  rw [riseB_iff]
  intro k hk
  have h1 : na l k = l[k]'(by omega) := by unfold na; rw [List.getElem?_eq_getElem (by omega)]; rfl
  have h2 : na l (k + 1) = l[k + 1] := by unfold na; rw [List.getElem?_eq_getElem hk]; rfl
  rw [h1, h2]
  exact List.pairwise_iff_getElem.1 h k (k + 1) (by omega) hk (by omega)
theorem filter_drop' {F : List Int} (hp : F.Nodup) (n : Nat) : F.filter (fun x => !(hasN (F.take n) x)) = F.drop n := by
  have h := List.take_append_drop n F
  have hn : (F.take n ++ F.drop n).Nodup := by rw [h]; exact hp
  rw [List.nodup_append] at hn
  have e : F.filter (fun x => !(hasN (F.take n) x)) = (F.take n ++ F.drop n).filter (fun x => !(hasN (F.take n) x)) := by rw [h]
  rw [e]
  rw [List.filter_append, List.filter_eq_nil_iff.2, List.nil_append, List.filter_eq_self.2]
  · intro x hx
    cases e : hasN (F.take n) x
    · rfl
    · exact absurd rfl (hn.2.2 x (hasN_iff.1 e) x hx)
  · intro x hx
    rw [hasN_iff.2 hx]; simp
theorem freeT_more (tk : Nat → Bool) (n : Nat) (T : List Int) : freeT (fun c => tk c || hasN T c) n = (freeT tk n).filter (fun x => !(hasN T x)) := by
  unfold freeT
  rw [List.filter_map, List.filter_filter]
  congr 1
  apply List.filter_congr
  intro c _
  simp only [Function.comp]
  cases tk c <;> cases hasN T (c : Int) <;> rfl
/-- A lease of what was found is of the form; it takes just that. -/
theorem take_found {ns : List Nd} {ls : List Lz} {j cn : Nat} {nm : Int} (hE : plE ns ls = 0) (hj : j < ns.length) (h0 : 0 ≤ nm) (h1 : nm ≤ 1099511627776) (hm : nm ≤ frM ns ls j) :
    plE ns (ls ++ [⟨(da ns j).id, nm, (frL ns ls j).take cn⟩]) = 0 ∧ frL ns (ls ++ [⟨(da ns j).id, nm, (frL ns ls j).take cn⟩]) j = (frL ns ls j).drop cn ∧ frM ns (ls ++ [⟨(da ns j).id, nm, (frL ns ls j).take cn⟩]) j = frM ns ls j - nm := by
  obtain ⟨h64, hn, hp⟩ := plE_zero hE
  have hN := ((ndsB_iff.1 hn).1 j hj).1
  have hI := ndI_at hn hj
  have hpw := freeT_pair (rmA ls (da ns j)).tk (da ns j).co.toNat
  have hsame : rmA (ls ++ [⟨(da ns j).id, nm, (frL ns ls j).take cn⟩]) (da ns j) = rmT (rmA ls (da ns j)) ⟨(da ns j).id, nm, (frL ns ls j).take cn⟩ := rmA_same rfl
  refine ⟨?_, ?_, ?_⟩
  · have hle : leB ns ls ⟨(da ns j).id, nm, (frL ns ls j).take cn⟩ = true := by
      unfold leB
      simp only
      rw [hI, decide_eq_true hj, Bool.true_and]
      have m1 : ∀ c ∈ (frL ns ls j).take cn, c ∈ freeT (rmA ls (da ns j)).tk (da ns j).co.toNat := fun c hc => List.mem_of_mem_take hc
      have k1 : coB (da ns j).co ((frL ns ls j).take cn) = true := by
        unfold coB
        rw [Bool.and_eq_true, List.all_eq_true]
        refine ⟨fun c hc => ?_, pair_rise (hpw.sublist (List.take_sublist _ _))⟩
        obtain ⟨d, hd, _, rfl⟩ := mem_freeT.1 (m1 c hc)
        simp
        omega
      have k2 : ((frL ns ls j).take cn).all (fun c => !(hasN (taken (da ns j).id ls) c)) = true := by
        rw [List.all_eq_true]
        intro c hc
        obtain ⟨d, _, hd, rfl⟩ := mem_freeT.1 (m1 c hc)
        have hd' : hasN (taken (da ns j).id ls) (d : Int) = false := hd
        rw [hd']; rfl
      have k3 : frM ns ls j = (da ns j).me - usedM (da ns j).id ls := rfl
      rw [k1, k2, decide_eq_false (by omega : ¬ nm < 0), decide_eq_false (by omega : ¬ 1099511627776 < nm), decide_eq_false (by omega : ¬ (da ns j).me < usedM (da ns j).id ls + nm)]
      rfl
    unfold plE formP
    rw [if_neg (by omega), hn, lesB_one, hp, hle]
    rfl
  · have e : frL ns (ls ++ [⟨(da ns j).id, nm, (frL ns ls j).take cn⟩]) j = freeT (rmA (ls ++ [⟨(da ns j).id, nm, (frL ns ls j).take cn⟩]) (da ns j)).tk (da ns j).co.toNat := rfl
    rw [e, hsame]
    show freeT (fun c => (rmA ls (da ns j)).tk c || hasN ((frL ns ls j).take cn) c) (da ns j).co.toNat = _
    rw [freeT_more]
    exact filter_drop' (hpw.imp (fun h => Int.ne_of_lt h)) cn
  · unfold frM
    rw [hsame]
    rfl

end Go.Proofs.Ytikalkigmnipiaa
