/-
  The document's answer for queues: Sums.
-/
import Derived.Test.YtdbkjcnanffibaaRL
namespace Go.Proofs.Ytdbkjcnanffibaa
open Go.RowKit Go.Deep Go.Maps Go.Shelf
set_option linter.unusedVariables false

/-- Uses. -/
def ua (us : List Us) (i : Nat) : Us := us[i]?.getD ⟨0, 0, 0⟩
theorem ua_get {us : List Us} {i : Nat} (h : i < us.length) : us[i]? = some (ua us i) := by unfold ua; rw [List.getElem?_eq_getElem h]; rfl
theorem ua_snoc {us : List Us} {k : Nat} (h : k < us.length) : us.take (k + 1) = us.take k ++ [ua us k] := by rw [List.take_add_one, ua_get h]; rfl
theorem ua_mem {us : List Us} {k : Nat} (h : k < us.length) : ua us k ∈ us := List.mem_of_getElem? (ua_get h)
theorem HoldsE.rowU {w : World} {a : Option Addr} {len cap : Nat} {l : List Us} (h : HoldsU w a len cap l) (hp : 0 < len) : ∃ b off, a = some ⟨b, off, none⟩ ∧ ∀ j, j < len → w.cell? ⟨b, off + j * 3, none⟩ = some (.int .i64 (ua l j).qu) ∧ w.cell? ⟨b, off + j * 3 + 1, none⟩ = some (.int .i64 (ua l j).uc) ∧ w.cell? ⟨b, off + j * 3 + 2, none⟩ = some (.int .i64 (ua l j).um) := by
  obtain ⟨h1, h2, h3, h4, h5⟩ := h
  obtain ⟨b, off, e, hlt, hc⟩ := h5 hp
  refine ⟨b, off, e, fun j hj => ?_⟩
  have hh := hc j _ (ua_get (by omega))
  exact ⟨hh 0 _ rfl, hh 1 _ rfl, hh 2 _ rfl⟩
/-- The error of uses: the first one's. -/
def usesE (l : List Qu) : List Us → Int
  | [] => 0
  | u :: r => if useE l u ≠ 0 then useE l u else usesE l r
theorem usesE_good {l : List Qu} : ∀ {us : List Us}, (∀ u ∈ us, useE l u = 0) → usesE l us = 0 := by
  intro us h
  induction us with
  | nil => rfl
  | cons u r ih => unfold usesE; rw [if_neg (by rw [h u (List.mem_cons_self ..)]; decide)]; exact ih (fun x hx => h x (List.mem_cons_of_mem _ hx))
theorem usesE_bad {l : List Qu} : ∀ {us : List Us} {k : Nat}, k < us.length → (∀ u ∈ us.take k, useE l u = 0) → useE l (ua us k) ≠ 0 → usesE l us = useE l (ua us k) := by
  intro us
  induction us with
  | nil => intro k h; simp at h
  | cons u r ih =>
    intro k hk h hb
    unfold usesE
    cases k with
    | zero =>
      have e : ua (u :: r) 0 = u := rfl
      rw [e] at hb ⊢
      rw [if_pos hb]
    | succ k =>
      rw [if_neg (by rw [h u (by simp)]; decide)]
      exact ih (by simpa using hk) (fun x hx => h x (by simp; right; exact hx)) hb
theorem useE_zero {l : List Qu} {u : Us} (h : useE l u = 0) : hasQ l u.qu = true ∧ leafB l u.qu = true ∧ okp u.uc ∧ okp u.um := by
  unfold useE at h
  split at h
  · cases h
  · rename_i h1
    split at h
    · cases h
    · rename_i h2
      unfold chk at h
      split at h
      · rename_i h3
        refine ⟨?_, ?_, h3⟩
        · cases hh : hasQ l u.qu
          · exact absurd hh h1
          · rfl
        · cases hh : leafB l u.qu
          · exact absurd hh h2
          · rfl
      · cases h
/-- What a queue uses. -/
def vecAt (l : List Qu) (us : List Us) (i : Nat) : Int × Int := (sumU Us.uc l i us, sumU Us.um l i us)
def vecsTo (l : List Qu) (us : List Us) (k : Nat) : List (Int × Int) := (List.range k).map (vecAt l us)
theorem vecsTo_snoc (l : List Qu) (us : List Us) (k : Nat) : vecsTo l us (k + 1) = vecsTo l us k ++ [vecAt l us k] := by unfold vecsTo; rw [List.range_succ, List.map_append]; rfl
theorem vecsTo_len (l : List Qu) (us : List Us) (k : Nat) : (vecsTo l us k).length = k := by unfold vecsTo; simp
def fitsB (l : List Qu) (us : List Us) : Bool := (List.range l.length).all (fun i => okv (vecAt l us i))
theorem fitsB_no {l : List Qu} {us : List Us} {k : Nat} (h : k < l.length) (e : okv (vecAt l us k) = false) : fitsB l us = false := by
  cases hh : fitsB l us
  · rfl
  · unfold fitsB at hh
    rw [List.all_eq_true] at hh
    have := hh k (List.mem_range.2 h)
    rw [e] at this; cases this
theorem fitsB_yes {l : List Qu} {us : List Us} (h : ∀ k, k < l.length → okv (vecAt l us k) = true) : fitsB l us = true := by
  unfold fitsB
  rw [List.all_eq_true]
  intro k hk
  exact h k (List.mem_range.1 hk)
/-- What Sums answers. -/
def sumsE (l : List Qu) (us : List Us) : Int := if chkE l ≠ 0 then chkE l else if usesE l us ≠ 0 then usesE l us else if fitsB l us = false then 2 else 0
def sumsR (l : List Qu) (us : List Us) : List (Int × Int) := if sumsE l us = 0 then vecsTo l us l.length else []
/-- Capped. -/
def cm (s : Int) : Int := if 1099511627777 < s then 1099511627777 else s
theorem cm_le {s : Int} (h : 0 ≤ s) : 0 ≤ cm s ∧ cm s ≤ 1099511627777 := by unfold cm; split <;> omega
theorem cm_add {s x : Int} (hs : 0 ≤ s) (hx : 0 ≤ x) : cm (cm s + x) = cm (s + x) := by unfold cm; (repeat' split) <;> omega
theorem cm_ok {s : Int} (h : 0 ≤ s) : okp (cm s) ↔ okp s := by unfold okp cm; split <;> omega
theorem cm_same {s : Int} (h : okp s) : cm s = s := by unfold okp at h; unfold cm; rw [if_neg (by omega)]
theorem okv_cm {a b : Int} (h1 : 0 ≤ a) (h2 : 0 ≤ b) : okv (cm a, cm b) = okv (a, b) := by
  unfold okv
  simp only [cm_ok h1, cm_ok h2]
def encV (v : Int × Int) : List Value := [.int .i64 v.1, .int .i64 v.2]
theorem encV_len (v : Int × Int) : (encV v).length = 2 := rfl
theorem encV_one (v : Int × Int) : ∀ u ∈ encV v, u.oneCell' = true := by
  intro u hu
  simp [encV] at hu
  rcases hu with rfl | rfl <;> rfl
theorem infoV : (Try.prog.info? 32).map (fun i => (i.zero, i.size, i.bytes)) = some (some (.agg #[.int .i64 0, .int .i64 0]), 2, 16) := by kernel_rfl
abbrev OwnV (base : Nat) (w : World) (v : Value) (n : Nat) (l : List (Int × Int)) : Prop := OwnE 32 2 encV base w v n l
abbrev HoldsV (w : World) (a : Option Addr) (len cap : Nat) (l : List (Int × Int)) : Prop := HoldsE 2 encV w a len cap l
theorem push_v {ops : Array Oper} {rest : List Oper} {o : Oper} {a : Act} {Q : Exit → Act → World → Prop} (wr : World) (c m : Int) (hg : o.guard = none) (s y : Operand) (hop : o.op = Op.call { callee := Callee.builtin Builtin.append, args := #[s, y], argTypes := #[47, 47] })
    (base n : Nat) (v : Value) (l : List (Int × Int)) (hs : a.eval s = v) (hown : OwnV base wr v n l) (hb : base ≤ wr.heap.size) (hx : a.eval y = .slice (some ⟨wr.heap.size, 0, none⟩) 1 1) (b1 : n + 1 ≤ 1000000)
    (hK : ∀ v' w', OwnV base w' v' (n + 1) (l ++ [(c, m)]) → Below base wr w' → wr.grownBy w' v.ownBlock → wpList Try.prog ops Q rest (a.put o.dst v') w') :
    wpList Try.prog ops Q (o :: rest) a (wr.alloc (.cells #[.int .i64 c, .int .i64 m] 32)) :=
  push_ownE 47 32 _ 16 encV_len encV_one Try.underlying47 infoV rfl (by decide) wr (c, m) hg s y hop base n v l _ rfl hs hown hb hx (by omega) (by omega) hK

/-- The answer of the second half. -/
def halfE (l : List Qu) (us : List Us) : Int := if fitsB l us = false then 2 else 0
def halfR (l : List Qu) (us : List Us) : List (Int × Int) := if fitsB l us = false then [] else vecsTo l us l.length
theorem halfE_no {l : List Qu} {us : List Us} (h : fitsB l us = false) : halfE l us = 2 := by unfold halfE; rw [if_pos h]
theorem halfR_no {l : List Qu} {us : List Us} (h : fitsB l us = false) : halfR l us = [] := by unfold halfR; rw [if_pos h]
theorem halfE_yes {l : List Qu} {us : List Us} (h : fitsB l us = true) : halfE l us = 0 := by unfold halfE; rw [if_neg (by rw [h]; decide)]
theorem halfR_yes {l : List Qu} {us : List Us} (h : fitsB l us = true) : halfR l us = vecsTo l us l.length := by unfold halfR; rw [if_neg (by rw [h]; decide)]

end Go.Proofs.Ytdbkjcnanffibaa
