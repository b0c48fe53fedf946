/-
  What law08's first calls answer.
-/
import Derived.Test.YtdbkjcnanffibaaUN
namespace Go.Proofs.Ytdbkjcnanffibaa
open Go.RowKit Go.Deep Go.Maps Go.Shelf
set_option linter.unusedVariables false
set_option linter.unusedSimpArgs false
set_option maxRecDepth 100000

/-- What a literal holds. -/
theorem holds8 {α : Type} {k : Nat} {enc : α → List Value} (hk : ∀ x, (enc x).length = k) {W : World} {b : Nat} {cs : Array Value} {t : TypeId} {fr : Nat × Nat} {l : List α} (hb : W.heap[b]? = some (.cells cs t fr)) (e : cs.toList = l.flatMap enc) (hl : l.length ≤ 64) : HoldsE k enc W (some ⟨b, 0, none⟩) l.length l.length l :=
  ⟨rfl, Nat.le_refl _, by omega, (fun h => by cases h), fun _ => ⟨b, 0, rfl, (Array.getElem?_eq_some_iff.1 hb).1, fun j x hx i v hv => by
    rw [Nat.zero_add, cell_of_row W b _ cs t fr hb, ← Array.getElem?_toList, e]
    exact flat_get hk l j x i v hx hv⟩⟩

theorem alloc_old8 (w : World) (o : Obj) {b : Nat} (h : b < w.heap.size) : (w.alloc o).heap[b]? = w.heap[b]? := ((Below.refl w.heap.size w).alloc (Nat.le_refl _) o).block b h
theorem alloc38 (w : World) (A B C : Obj) : (((w.alloc A).alloc B).alloc C).heap[w.heap.size]? = some A ∧ (((w.alloc A).alloc B).alloc C).heap[w.heap.size + 1]? = some B ∧ (((w.alloc A).alloc B).alloc C).heap[w.heap.size + 1 + 1]? = some C := by
  have s1 : (w.alloc A).heap.size = w.heap.size + 1 := by simp
  have s2 : ((w.alloc A).alloc B).heap.size = w.heap.size + 1 + 1 := by simp
  refine ⟨?_, ?_, ?_⟩
  · rw [alloc_old8 _ _ (by omega), alloc_old8 _ _ (by omega)]; exact heap_alloc_new w A
  · rw [alloc_old8 _ _ (by omega), ← s1]; exact heap_alloc_new _ B
  · rw [← s2]; exact heap_alloc_new _ C
def qs8 : List Qu := [⟨0, -1, 1, 10, 10, 0, 0⟩, ⟨1, 0, 1, 10, 10, 0, 0⟩]
def ls8 (b0 b1 n : Nat) (c : List Int) : List Le := [⟨4, 1, 0, some ⟨b0, 0, none⟩, 1, 1, 0, 0, 0, false, [0]⟩, ⟨7, 1, 0, some ⟨b1, 0, none⟩, n, n, 0, 0, 0, false, c⟩]
theorem useErr8 (b0 b1 : Nat) : useErr (ls8 b0 b1 2 [1, 2]) = 0 := by kernel_rfl
theorem useV8 (b0 b1 : Nat) : useV (ls8 b0 b1 2 [1, 2]) = [⟨1, 3, 0⟩] := by kernel_rfl
theorem readE8 (b0 b1 : Nat) : readE qs8 (ls8 b0 b1 1 [1]) = 0 := by kernel_rfl
theorem bestL8 (b0 b1 : Nat) : bestL qs8 (ls8 b0 b1 1 [1]) 10 10 = some ⟨7, 1, 0, some ⟨b1, 0, none⟩, 1, 1, 0, 0, 0, false, [1]⟩ := by kernel_rfl
theorem chsE8 (b0 b1 : Nat) : chsE qs8 (ls8 b0 b1 1 [1]) 10 10 = 0 := by
  unfold chsE; rw [if_pos (readE8 b0 b1), bestL8]; rfl
theorem chsT8 (b0 b1 : Nat) : chsT qs8 (ls8 b0 b1 1 [1]) 10 10 = 7 := by
  unfold chsT; rw [if_pos ⟨readE8 b0 b1, by rfl⟩, bestL8]; rfl

set_option maxHeartbeats 4000000 in
theorem awake8_any (w : World) : Calls Try.prog 7 #[] w fun e w' => e = .returned (.bool true) ∧ Below w.heap.size w w' := by
  have US : Hid (∀ W b0 b1 c, HoldsL W (some ⟨c, 0, none⟩) 2 2 (ls8 b0 b1 2 [1, 2]) → Calls Try.prog 8 #[.slice (some ⟨c, 0, none⟩) 2 2] W fun e w' => ∃ ub uc, e = .returned (.tuple #[.slice (some ⟨ub, 0, none⟩) 1 uc, .int .i64 0]) ∧ HoldsU w' (some ⟨ub, 0, none⟩) 1 uc [⟨1, 3, 0⟩] ∧ Below W.heap.size W w') := by
    intro W b0 b1 c h
    have hok : ∀ x ∈ ls8 b0 b1 2 [1, 2], x.okB := by
      intro x hx
      simp only [ls8, List.mem_cons, List.not_mem_nil, or_false] at hx
      rcases hx with rfl | rfl <;> exact ⟨by unfold I64; simp, by unfold I64; simp, by unfold I64; simp⟩
    refine (uuses_any _ 2 2 _ W h hok (by omega)).mono ?_
    rintro e w' ⟨v, rfl, h1, h2⟩
    have h3 := (h1.is hok (useErr8 b0 b1)).1
    rw [useV8] at h3
    rw [useErr8]
    obtain ⟨a, cap, rfl⟩ := h3.form
    have h4 := h3.holds Us.cs_len
    obtain ⟨g, hg⟩ : ∃ g, a = some ⟨g, 0, none⟩ := by
      rcases h3.2.2 with ⟨_, h0⟩ | ⟨g, cp, cur, hv, _⟩
      · cases h0
      · cases hv; exact ⟨g, rfl⟩
    subst hg
    exact ⟨g, cap, rfl, h4, h2⟩
  have CH : Hid (∀ W b0 b1 c q, HoldsL W (some ⟨c, 0, none⟩) 2 2 (ls8 b0 b1 1 [1]) → HoldsQ W (some ⟨q, 0, none⟩) 2 2 qs8 → Calls Try.prog 11 #[.slice (some ⟨q, 0, none⟩) 2 2, .slice (some ⟨c, 0, none⟩) 2 2, .agg #[.int .i64 10, .int .i64 10]] W fun e w' => e = .returned (.tuple #[.int .i64 7, .int .i64 0]) ∧ Below W.heap.size W w') := by
    intro W b0 b1 c q h hq
    have hok : ∀ x ∈ ls8 b0 b1 1 [1], x.okB := by
      intro x hx
      simp only [ls8, List.mem_cons, List.not_mem_nil, or_false] at hx
      rcases hx with rfl | rfl <;> exact ⟨by unfold I64; simp, by unfold I64; simp, by unfold I64; simp⟩
    have hqo : ∀ x ∈ qs8, x.ok := by
      intro x hx
      simp only [qs8, List.mem_cons, List.not_mem_nil, or_false] at hx
      rcases hx with rfl | rfl <;> (unfold Qu.ok I64; simp)
    have := uchoose_any _ 2 2 qs8 _ 2 2 _ 10 10 W hq hqo h hok (by omega) read_last
    rw [chsE8, chsT8] at this
    exact this
  go_enter Try.func7, Try.ntmps7
  go_wp2_with fail
  have LT : Hid (∀ (W : World) (n : Nat) (cc : Array Value) (c : List Int), cc.toList = c.flatMap encN → c.length = n → n ≤ 64 → HoldsL (((W.alloc (.cells #[.int .i64 0] 3)).alloc (.cells cc 3)).alloc (.cells #[.int .i64 4, .int .i64 1, .int .i64 0, .slice (some ⟨W.heap.size, 0, none⟩) 1 1, .int .i64 0, .int .i64 0, .int .i64 0, .bool false, .int .i64 7, .int .i64 1, .int .i64 0, .slice (some ⟨W.heap.size + 1, 0, none⟩) n n, .int .i64 0, .int .i64 0, .int .i64 0, .bool false] 38)) (some ⟨W.heap.size + 1 + 1, 0, none⟩) 2 2 (ls8 W.heap.size (W.heap.size + 1) n c)) := by
    intro W n cc c e hc hn
    obtain ⟨h1, h2, h3⟩ := alloc38 W (.cells #[.int .i64 0] 3) (.cells cc 3) (.cells #[.int .i64 4, .int .i64 1, .int .i64 0, .slice (some ⟨W.heap.size, 0, none⟩) 1 1, .int .i64 0, .int .i64 0, .int .i64 0, .bool false, .int .i64 7, .int .i64 1, .int .i64 0, .slice (some ⟨W.heap.size + 1, 0, none⟩) n n, .int .i64 0, .int .i64 0, .int .i64 0, .bool false] 38)
    refine ⟨holds8 (cs := #[.int .i64 4, .int .i64 1, .int .i64 0, .slice (some ⟨W.heap.size, 0, none⟩) 1 1, .int .i64 0, .int .i64 0, .int .i64 0, .bool false, .int .i64 7, .int .i64 1, .int .i64 0, .slice (some ⟨W.heap.size + 1, 0, none⟩) n n, .int .i64 0, .int .i64 0, .int .i64 0, .bool false]) (t := 38) (fr := (0, 0)) Le.cs_len h3 rfl (by simp [ls8]), fun x hx => ?_⟩
    simp only [ls8, List.mem_cons, List.not_mem_nil, or_false] at hx
    rcases hx with rfl | rfl
    · exact holds8 (cs := #[.int .i64 0]) (t := 3) (fr := (0, 0)) (l := [0]) encN_len h1 rfl (by decide)
    · have := holds8 (cs := cc) (t := 3) (fr := (0, 0)) (l := c) encN_len h2 e (by omega)
      rw [hc] at this
      exact this
  have B0 := hid (((Below.refl w.heap.size w).alloc (Nat.le_refl _) (.cells #[.int .i64 10, .int .i64 10] 32)).alloc (by simp) (.cells #[.int .i64 0, .int .i64 (-1), .int .i64 1, .int .i64 10, .int .i64 10, .int .i64 0, .int .i64 0, .int .i64 1, .int .i64 0, .int .i64 1, .int .i64 10, .int .i64 10, .int .i64 0, .int .i64 0] 53))
  have z0 : ((w.alloc (.cells #[.int .i64 10, .int .i64 10] 32)).alloc (.cells #[.int .i64 0, .int .i64 (-1), .int .i64 1, .int .i64 10, .int .i64 10, .int .i64 0, .int .i64 0, .int .i64 1, .int .i64 0, .int .i64 1, .int .i64 10, .int .i64 10, .int .i64 0, .int .i64 0] 53)).cell? ⟨w.heap.size, 0, none⟩ = some (.int .i64 10) := by simp [go_sem]
  have z1 : ((w.alloc (.cells #[.int .i64 10, .int .i64 10] 32)).alloc (.cells #[.int .i64 0, .int .i64 (-1), .int .i64 1, .int .i64 10, .int .i64 10, .int .i64 0, .int .i64 0, .int .i64 1, .int .i64 0, .int .i64 1, .int .i64 10, .int .i64 10, .int .i64 0, .int .i64 0] 53)).cell? ⟨w.heap.size, 1, none⟩ = some (.int .i64 10) := by simp [go_sem]
  have HQ0 : Hid (HoldsQ ((w.alloc (.cells #[.int .i64 10, .int .i64 10] 32)).alloc (.cells #[.int .i64 0, .int .i64 (-1), .int .i64 1, .int .i64 10, .int .i64 10, .int .i64 0, .int .i64 0, .int .i64 1, .int .i64 0, .int .i64 1, .int .i64 10, .int .i64 10, .int .i64 0, .int .i64 0] 53)) (some ⟨w.heap.size + 1, 0, none⟩) 2 2 qs8) := holds8 (cs := #[.int .i64 0, .int .i64 (-1), .int .i64 1, .int .i64 10, .int .i64 10, .int .i64 0, .int .i64 0, .int .i64 1, .int .i64 0, .int .i64 1, .int .i64 10, .int .i64 10, .int .i64 0, .int .i64 0]) (t := 53) (fr := (0, 0)) (l := qs8) Qu.cs_len (by have := heap_alloc_new (w.alloc (.cells #[.int .i64 10, .int .i64 10] 32)) (.cells #[.int .i64 0, .int .i64 (-1), .int .i64 1, .int .i64 10, .int .i64 10, .int .i64 0, .int .i64 0, .int .i64 1, .int .i64 0, .int .i64 1, .int .i64 10, .int .i64 10, .int .i64 0, .int .i64 0] 53); simpa using this) rfl (by decide)
  have L1 := LT.out ((w.alloc (.cells #[.int .i64 10, .int .i64 10] 32)).alloc (.cells #[.int .i64 0, .int .i64 (-1), .int .i64 1, .int .i64 10, .int .i64 10, .int .i64 0, .int .i64 0, .int .i64 1, .int .i64 0, .int .i64 1, .int .i64 10, .int .i64 10, .int .i64 0, .int .i64 0] 53)) 2 #[.int .i64 1, .int .i64 2] [1, 2] rfl rfl (by decide)
  have s2 : ((w.alloc (.cells #[.int .i64 10, .int .i64 10] 32)).alloc (.cells #[.int .i64 0, .int .i64 (-1), .int .i64 1, .int .i64 10, .int .i64 10, .int .i64 0, .int .i64 0, .int .i64 1, .int .i64 0, .int .i64 1, .int .i64 10, .int .i64 10, .int .i64 0, .int .i64 0] 53)).heap.size = w.heap.size + 1 + 1 := by simp
  have BL := hid ((((Below.refl ((w.alloc (.cells #[.int .i64 10, .int .i64 10] 32)).alloc (.cells #[.int .i64 0, .int .i64 (-1), .int .i64 1, .int .i64 10, .int .i64 10, .int .i64 0, .int .i64 0, .int .i64 1, .int .i64 0, .int .i64 1, .int .i64 10, .int .i64 10, .int .i64 0, .int .i64 0] 53)).heap.size ((w.alloc (.cells #[.int .i64 10, .int .i64 10] 32)).alloc (.cells #[.int .i64 0, .int .i64 (-1), .int .i64 1, .int .i64 10, .int .i64 10, .int .i64 0, .int .i64 0, .int .i64 1, .int .i64 0, .int .i64 1, .int .i64 10, .int .i64 10, .int .i64 0, .int .i64 0] 53))).alloc (Nat.le_refl _) (.cells #[.int .i64 0] 3)).alloc (by simp) (.cells #[.int .i64 1, .int .i64 2] 3)).alloc (by first | (simp; done) | (simp; omega)) (.cells #[.int .i64 4, .int .i64 1, .int .i64 0, .slice (some ⟨w.heap.size + 1 + 1, 0, none⟩) 1 1, .int .i64 0, .int .i64 0, .int .i64 0, .bool false, .int .i64 7, .int .i64 1, .int .i64 0, .slice (some ⟨w.heap.size + 1 + 1 + 1, 0, none⟩) 2 2, .int .i64 0, .int .i64 0, .int .i64 0, .bool false] 38))
  rw [s2] at L1
  replace z0 := keepc BL.out z0
  replace z1 := keepc BL.out z1
  replace HQ0 := hid (HQ0.out.below BL.out)
  have B1 := hid (B0.out.trans (BL.out.mono B0.out.size))
  refine (US.out _ _ _ _ L1).mono ?_
  rintro e w1 ⟨ub, uc, rfl, hu, b1⟩
  have HU := hid hu
  have B2 := hid (B1.out.trans (b1.mono B1.out.size))
  replace z0 := keepc b1 z0
  replace z1 := keepc b1 z1
  replace HQ0 := hid (HQ0.out.below b1)
  clear L1 s2 BL B0 B1 US b1 hu
  have L2 := LT.out w1 1 #[.int .i64 1] [1] rfl rfl (by decide)
  have BL2 := hid ((((Below.refl w1.heap.size w1).alloc (Nat.le_refl _) (.cells #[.int .i64 0] 3)).alloc (by simp) (.cells #[.int .i64 1] 3)).alloc (by first | (simp; done) | (simp; omega)) (.cells #[.int .i64 4, .int .i64 1, .int .i64 0, .slice (some ⟨w1.heap.size, 0, none⟩) 1 1, .int .i64 0, .int .i64 0, .int .i64 0, .bool false, .int .i64 7, .int .i64 1, .int .i64 0, .slice (some ⟨w1.heap.size + 1, 0, none⟩) 1 1, .int .i64 0, .int .i64 0, .int .i64 0, .bool false] 38))
  have B3 := hid (B2.out.trans (BL2.out.mono B2.out.size))
  replace z0 := keepc BL2.out z0
  replace z1 := keepc BL2.out z1
  have HC2 := hid (CH.out _ _ _ _ _ L2 (HQ0.out.below BL2.out))
  replace HU := hid (HU.out.below BL2.out)
  clear L2 BL2 LT CH HQ0
  go_wp2_with fail
  refine HC2.out.mono ?_
  rintro e w2 ⟨rfl, b2⟩
  have B4 := hid (B3.out.trans (b2.mono B3.out.size))
  obtain ⟨h1, h2, h3, h4, h5⟩ := HU.out.below b2
  obtain ⟨g, o, e, _, hc⟩ := h5 (by decide)
  cases e
  have u1 := hc 0 _ rfl 1 _ rfl
  simp only [Nat.zero_mul, Nat.add_zero, Nat.zero_add] at u1
  clear hc h1 h2 h3 h4 h5 b2 HC2 HU
  go_wp2_with fail
  go_ret
  exact ⟨rfl, B4.out⟩
end Go.Proofs.Ytdbkjcnanffibaa
