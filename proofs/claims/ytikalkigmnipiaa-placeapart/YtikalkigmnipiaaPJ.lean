/-
  law07's first calls; which room is the tightest.
-/
import Derived.Test.YtikalkigmnipiaaPI
namespace Go.Proofs.Ytikalkigmnipiaa
open Go.RowKit Go.Deep Go.Maps Go.Shelf
set_option linter.unusedVariables false
set_option linter.unusedSimpArgs false

theorem holds_lit {α : Type} {k : Nat} {enc : α → List Value} (hk : ∀ x, (enc x).length = k) {W : World} {b : Nat} {cs : Array Value} {t : TypeId} {fr : Nat × Nat} {l : List α} (hb : W.heap[b]? = some (.cells cs t fr)) (e : cs.toList = l.flatMap enc) (hl : l.length ≤ 64) : HoldsE k enc W (some ⟨b, 0, none⟩) l.length l.length l :=
  ⟨rfl, Nat.le_refl _, by omega, (fun h => by cases h), fun _ => ⟨b, 0, rfl, (Array.getElem?_eq_some_iff.1 hb).1, fun j x hx i v hv => by
    rw [Nat.zero_add, cell_of_row W b _ cs t fr hb, ← Array.getElem?_toList, e]
    exact flat_get hk l j x i v hx hv⟩⟩

theorem alloc_old (w : World) (o : Obj) {b : Nat} (h : b < w.heap.size) : (w.alloc o).heap[b]? = w.heap[b]? := ((Below.refl w.heap.size w).alloc (Nat.le_refl _) o).block b h
theorem alloc3 (w : World) (A B C : Obj) : (((w.alloc A).alloc B).alloc C).heap[w.heap.size]? = some A ∧ (((w.alloc A).alloc B).alloc C).heap[w.heap.size + 1]? = some B ∧ (((w.alloc A).alloc B).alloc C).heap[w.heap.size + 1 + 1]? = some C := by
  have s1 : (w.alloc A).heap.size = w.heap.size + 1 := by simp
  have s2 : ((w.alloc A).alloc B).heap.size = w.heap.size + 1 + 1 := by simp
  refine ⟨?_, ?_, ?_⟩
  · rw [alloc_old _ _ (by omega), alloc_old _ _ (by omega)]; exact heap_alloc_new w A
  · rw [alloc_old _ _ (by omega), ← s1]; exact heap_alloc_new _ B
  · rw [← s2]; exact heap_alloc_new _ C
def ns7 : List Nd := [⟨1, 4, 9, 0, 0⟩, ⟨2, 2, 9, 0, 0⟩]
def ls7 (b : Nat) : List Le := [⟨5, 0, 1, some ⟨b, 0, none⟩, 2, 2, 0, 0, 0, false, [0, 2]⟩]
set_option maxRecDepth 100000 in
theorem fnd7 (b : Nat) : fndI ns7 ((ls7 b).map Le.z) 2 3 = 1 ∧ fndE ns7 ((ls7 b).map Le.z) 2 3 = 0 ∧ fndL ns7 ((ls7 b).map Le.z) 2 3 = [1, 3] := ⟨by kernel_rfl, by kernel_rfl, by kernel_rfl⟩

set_option maxRecDepth 100000 in
set_option maxHeartbeats 4000000 in
theorem awake7_any (w : World) : Calls Try.prog 15 #[] w fun e w' => e = .returned (.bool true) ∧ Below w.heap.size w w' := by
  have FD : Hid (∀ W b g c, HoldsD W (some ⟨b, 0, none⟩) 2 2 ns7 → HoldsL W (some ⟨c, 0, none⟩) 1 1 (ls7 g) → Calls Try.prog 17 #[.slice (some ⟨b, 0, none⟩) 2 2, .slice (some ⟨c, 0, none⟩) 1 1, .agg #[.int .i64 2, .int .i64 3]] W fun e w' => ∃ a, e = .returned (.tuple #[.int .i64 1, .slice a 2 2, .int .i64 0]) ∧ HoldsN w' a 2 2 [1, 3] ∧ Below W.heap.size W w') := fun W b g c h1 h2 => by
    refine (pfind_any _ 2 2 ns7 _ 1 1 (ls7 g) 2 3 W h1 h2).mono ?_
    rintro e w' ⟨v, rfl, h3, h4⟩
    obtain ⟨e1, e2, e3⟩ := fnd7 g
    rw [e3] at h3
    obtain ⟨a, rfl, h5⟩ := h3.holds
    rw [e1, e2]
    exact ⟨a, rfl, h5, h4⟩
  go_enter Try.func15, Try.ntmps15
  go_wp2_with fail
  refine (FD.out _ w.heap.size (w.heap.size + 1) (w.heap.size + 1 + 1) (holds_lit (cs := #[.int .i64 1, .int .i64 4, .int .i64 9, .int .i64 0, .int .i64 0, .int .i64 2, .int .i64 2, .int .i64 9, .int .i64 0, .int .i64 0]) (t := 41) (fr := (0, 0)) (l := ns7) Nd.cs_len (alloc3 _ _ _ _).1 rfl (by decide)) ⟨holds_lit (cs := #[.int .i64 5, .int .i64 0, .int .i64 1, .slice (some ⟨w.heap.size + 1, 0, none⟩) 2 2, .int .i64 0, .int .i64 0, .int .i64 0, .bool false]) (t := 43) (fr := (0, 0)) (l := ls7 (w.heap.size + 1)) Le.cs_len (alloc3 _ _ _ _).2.2 rfl (by simp [ls7]), fun x hx => ?_⟩).mono ?_
  · obtain rfl : x = _ := List.mem_singleton.1 hx
    exact holds_lit (cs := #[.int .i64 0, .int .i64 2]) (t := 3) (fr := (0, 0)) (l := [0, 2]) encN_len (alloc3 _ _ _ _).2.1 rfl (by decide)
  rintro e w1 ⟨a, rfl, h1, b1⟩
  have B1 : Hid (Below w.heap.size w w1) := Below.trans (by repeat (first | exact Below.refl _ _ | assumption | refine Below.alloc ?_ (by simp <;> omega) _ | refine Below.setCell ?_ (by simp <;> omega) _ | refine Below.drew ?_ | refine below_drewN ?_ _)) (b1.mono (by simp <;> omega))
  have H1 := hid h1
  clear h1 b1
  have IT := hid (fun W (h : Below w1.heap.size w1 W) b (h2 : HoldsN W (some ⟨b, 0, none⟩) 2 2 [1, 3]) => ints_any a (some ⟨b, 0, none⟩) 2 2 2 [1, 3] W (H1.out.below h) h2 (by omega))
  go_wp2_with fail
  refine (IT.out _ (by repeat (first | exact Below.refl _ _ | assumption | refine Below.alloc ?_ (by simp <;> omega) _ | refine Below.setCell ?_ (by simp <;> omega) _ | refine Below.drew ?_ | refine below_drewN ?_ _)) w1.heap.size (holds_lit (cs := #[.int .i64 1, .int .i64 3]) (t := 3) (fr := (0, 0)) (l := [1, 3]) encN_len (heap_alloc_new _ _) rfl (by decide))).mono ?_
  rintro e w2 ⟨rfl, b2⟩
  have B2 : Hid (Below w.heap.size w w2) := (B1.out.alloc B1.out.size _).trans (b2.mono (by have := B1.out.size; simp; omega))
  go_wp2
  go_ret
  exact ⟨rfl, B2.out⟩

/-- None fits; or: whatever fits isn't tighter. -/
theorem tgt_best {l : List Rm} {c m : Int} : ∀ k, (tgt l c m k = none → ∀ j, j < k → fitB c m (ra l j).fc (ra l j).fm = false) ∧ (∀ b, tgt l c m k = some b → ∀ j, j < k → fitB c m (ra l j).fc (ra l j).fm = true → (ra l b).fc < (ra l j).fc ∨ ((ra l b).fc = (ra l j).fc ∧ b ≤ j)) := by
  intro k
  induction k with
  | zero => exact ⟨fun _ j hj => by omega, fun b h => by cases h⟩
  | succ k ih =>
    have e : tgt l c m (k + 1) = stepT l c m k (tgt l c m k) := rfl
    rw [e]
    cases ho : tgt l c m k with
    | none =>
      have h1 := ih.1 ho
      unfold stepT
      cases hf : fitB c m (ra l k).fc (ra l k).fm
      · refine ⟨fun _ j hj => ?_, fun b h => by simp at h⟩
        rcases Nat.lt_or_ge j k with h | h
        · exact h1 j h
        · rw [show j = k by omega]; exact hf
      · refine ⟨fun h => by simp at h, fun b h j hj hfj => ?_⟩
        simp at h
        subst h
        rcases Nat.lt_or_ge j k with h | h
        · rw [h1 j h] at hfj; cases hfj
        · rw [show j = k by omega]; exact .inr ⟨rfl, by omega⟩
    | some b0 =>
      have h1 := ih.2 b0 ho
      have hb := tgt_lt ho
      have hfb := tgt_fit ho
      unfold stepT
      cases hf : fitB c m (ra l k).fc (ra l k).fm
      · refine ⟨fun h => by simp at h, fun b h j hj hfj => ?_⟩
        simp at h
        subst h
        rcases Nat.lt_or_ge j k with h | h
        · exact h1 j h hfj
        · rw [show j = k by omega, hf] at hfj; cases hfj
      · by_cases hl : (ra l k).fc < (ra l b0).fc
        · refine ⟨fun h => by simp [hl] at h, fun b h j hj hfj => ?_⟩
          simp [hl] at h
          subst h
          rcases Nat.lt_or_ge j k with h | h
          · have := h1 j h hfj; left; omega
          · rw [show j = k by omega]; exact .inr ⟨rfl, by omega⟩
        · refine ⟨fun h => by simp [hl] at h, fun b h j hj hfj => ?_⟩
          simp [hl] at h
          subst h
          rcases Nat.lt_or_ge j k with h | h
          · exact h1 j h hfj
          · rw [show j = k by omega]
            rcases Int.lt_or_eq_of_le (Int.not_lt.1 hl) with h2 | h2
            · exact .inl h2
            · exact .inr ⟨h2, by omega⟩
/-- .. of the nodes. -/
theorem fnd_none {ns : List Nd} {ls : List Lz} {nc nm : Int} (hE : plE ns ls = 0) (h : fndO ns ls nc nm = none) {j : Nat} (hj : j < ns.length) : ((frL ns ls j).length : Int) < nc ∨ frM ns ls j < nm := by
  obtain ⟨h64, hn, hp⟩ := plE_zero hE
  have h1 := (tgt_best ns.length).1 h j hj
  rw [ra_map ns ls hj] at h1
  unfold fitB at h1
  rw [fc_free hn hp hj] at h1
  have e : (freeT (rmA ls (da ns j)).tk (da ns j).co.toNat) = frL ns ls j := rfl
  rw [e] at h1
  have e2 : (rmA ls (da ns j)).fm = frM ns ls j := rfl
  rw [e2] at h1
  simp at h1
  omega
theorem fnd_best {ns : List Nd} {ls : List Lz} {nc nm : Int} (hE : plE ns ls = 0) {b : Nat} (h : fndO ns ls nc nm = some b) {j : Nat} (hj : j < ns.length) (h1 : nc ≤ ((frL ns ls j).length : Int)) (h2 : nm ≤ frM ns ls j) : (frL ns ls b).length < (frL ns ls j).length ∨ ((frL ns ls b).length = (frL ns ls j).length ∧ (da ns b).id ≤ (da ns j).id) := by
  obtain ⟨h64, hn, hp⟩ := plE_zero hE
  have hb := tgt_lt h
  have h3 := (tgt_best ns.length).2 b h j hj
  rw [ra_map ns ls hj, ra_map ns ls hb] at h3
  unfold fitB at h3
  rw [fc_free hn hp hj, fc_free hn hp hb] at h3
  have h4 := h3 (by rw [Bool.and_eq_true, decide_eq_true_eq, decide_eq_true_eq]; exact ⟨h1, h2⟩)
  rcases h4 with h4 | ⟨h4, h5⟩
  · left; exact Int.ofNat_lt.1 h4
  · right
    refine ⟨Int.ofNat_inj.1 h4, ?_⟩
    rcases Nat.lt_or_ge b j with h6 | h6
    · have := (ndsB_iff.1 hn).2 b j h6 hj; omega
    · rw [show b = j by omega]; exact Int.le_refl _

end Go.Proofs.Ytikalkigmnipiaa
