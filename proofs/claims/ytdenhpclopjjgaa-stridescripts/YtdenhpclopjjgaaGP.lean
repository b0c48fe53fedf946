/-
  First calls of law09.
-/
import Derived.Test.YtdenhpclopjjgaaGO
namespace Go.Proofs.Ytdenhpclopjjgaa
open Go.RowKit Go.Deep Go.Maps
set_option linter.unusedVariables false
set_option linter.unusedSimpArgs false

theorem holdsN_lit (w : World) (t : TypeId) (l : List Int) (cs : Array Value) (hc : cs = (l.map (fun x => Value.int .i64 x)).toArray) (n : Nat) (hn : l.length = n) (hm : n ≤ 9223372036854775807) : HoldsN (w.alloc (.cells cs t)) (some ⟨w.heap.size, 0, none⟩) n n l := by
  subst hc
  refine ⟨hn, Nat.le_refl _, hm, (fun e => by cases e), fun _ => ⟨w.heap.size, 0, rfl, by simp, fun j x hx i v hv => ?_⟩⟩
  have hi : i = 0 := by
    have := (List.getElem?_eq_some_iff.1 hv).1
    simp [encN] at this
    exact this
  subst hi
  cases hv
  rw [World.cell?_alloc_at (w := w) _ _ w.heap.size (0 + j * 1 + 0) rfl]
  simp [hx]
def aw1 : List Cl := joinM [] 1 2 0
def aw2 : List Cl := joinM aw1 2 1 0
theorem aw_e1 : joinE [] 1 2 0 = 0 := by decide
theorem aw_e2 : joinE aw1 2 1 0 = 0 := by decide +kernel
theorem aw_e3 : runE aw2 6 = 0 := by decide +kernel
theorem aw_v : runV aw2 6 = [1, 2, 1, 1, 2, 1] := by decide +kernel
theorem aw_g1 : Gr aw1 := Gr.nil.join (by unfold I64; omega)
theorem aw_g2 : Gr aw2 := aw_g1.join (by unfold I64; omega)

set_option maxRecDepth 100000 in
set_option maxHeartbeats 4000000 in
theorem awake9_any (w : World) : Calls Try.prog 9 #[] w fun e w' => e = .returned (.bool true) ∧ Below w.heap.size w w' := by
  go_enter Try.func9, Try.ntmps9
  go_wp2_with fail
  refine (new_any w).mono ?_
  rintro e w1 ⟨gb, rfl, g1, hgb, b1⟩
  have G1 := hid g1
  have B1 := hid b1
  clear g1 b1
  go_wp2_with fail
  refine (join_any gb gb [] 1 2 0 w1 G1.out Gr.nil (by unfold I64; omega)).mono ?_
  rintro e w2 ⟨r2, rfl, g2, t2, p2⟩
  rw [aw_e1]
  have G2 : Hid (Grp w2 gb r2 aw1) := g2
  have B2 := hid (B1.out.trans (t2.below hgb hgb B1.out.size))
  have R2 : Hid (w.heap.size ≤ r2) := by have := B1.out.size; rcases p2 with h | h <;> (unfold Hid; omega)
  clear g2 t2 p2
  go_wp2_with fail
  refine (join_any gb r2 aw1 2 1 0 w2 G2.out aw_g1 (by unfold I64; omega)).mono ?_
  rintro e w3 ⟨r3, rfl, g3, t3, p3⟩
  rw [aw_e2]
  have G3 : Hid (Grp w3 gb r3 aw2) := g3
  have B3 := hid (B2.out.trans (t3.below hgb R2.out B2.out.size))
  have R3 : Hid (w.heap.size ≤ r3) := by have := B2.out.size; have := R2.out; rcases p3 with h | h <;> (unfold Hid; omega)
  clear g3 t3 p3
  go_wp2_with fail
  refine (run_any gb r3 aw2 6 w3 G3.out aw_g2).mono ?_
  rintro e w4 ⟨v4, rfl, o4, g4, t4⟩
  rw [aw_e3]
  rw [aw_v] at o4
  obtain ⟨a4, c4, rfl⟩ := o4.form
  have H4 := hid (o4.holds encN_len)
  have B4 := hid (B3.out.trans (t4.below hgb R3.out B3.out.size))
  clear g4 t4 o4
  simp only [List.length_cons, List.length_nil, Nat.zero_add, Nat.reduceAdd] at H4 ⊢
  have B5 : Hid (Below w4.heap.size w4 (w4.alloc (.cells #[.int .i64 1, .int .i64 2, .int .i64 1, .int .i64 1, .int .i64 2, .int .i64 1] 3))) := (Below.refl _ _).alloc (Nat.le_refl _) _
  have IA := hid (ints_any a4 (some ⟨w4.heap.size, 0, none⟩) 6 c4 6 [1, 2, 1, 1, 2, 1] (w4.alloc (.cells #[.int .i64 1, .int .i64 2, .int .i64 1, .int .i64 1, .int .i64 2, .int .i64 1] 3)) (H4.out.below B5.out) (holdsN_lit w4 _ _ _ rfl 6 rfl (by omega)) (by omega))
  go_wp2_with fail
  refine IA.out.mono ?_
  rintro e w5 ⟨rfl, b5⟩
  have B6 := hid (B4.out.trans ((B5.out.trans (b5.mono B5.out.size)).mono B4.out.size))
  clear b5
  go_wp2
  go_ret
  exact ⟨rfl, B6.out⟩

/-- 'append' of numbers, as one step. -/
theorem app_run (ty : TypeId) (base n m c : Nat) (w : World) (v : Value) (ao : Option Addr) (l p : List Int) (hown : OwnN base w v n l) (hp : HoldsN w ao m c p) (hb : base ≤ w.heap.size) (b0 : n + m ≤ 140737488355) :
    ∃ v' w', (appF #[36, 36] ty #[v, .slice ao m c]).run Try.prog w = .ok v' w' ∧ OwnN base w' v' (n + m) (l ++ p) ∧ Below base w w' ∧ w.grownBy w' v.ownBlock := by
  obtain ⟨i0, hi, hz0, hz1, hz2⟩ := info_parts infoN
  have hrow : ∀ g, v.ownBlock = some g → base ≤ g := fun g hk => (hown.lt g hk).1
  obtain ⟨p1, p2, p3, p6, p7⟩ := hp
  have key : ∀ (ad : Addr), ao = some ad → (∀ j u, (p.flatMap encN)[j]? = some u → w.cell? (ad.add j) = some u) → ∃ v' w', (appF #[36, 36] ty #[v, .slice ao m c]).run Try.prog w = .ok v' w' ∧ OwnN base w' v' (n + m) (l ++ p) ∧ Below base w w' ∧ w.grownBy w' v.ownBlock := by
    rintro ad rfl hc
    obtain ⟨v', w', hrun, h2, h3, _⟩ := run_append_own (P := Try.prog) w base 36 ty 3 i0 (.int .i64 0) 1 8 Try.underlying36 hi hz0 hz1 hz2 rfl (by decide) v n _ hown.2 ad m c (p.flatMap encN) (by rw [flat_len encN_len, p1]) hc (fun u hu => by
      obtain ⟨x, _, hx⟩ := List.mem_flatMap.1 hu
      simp [encN] at hx
      subst hx; rfl) (by unfold maxLen; omega) (by omega) hb
    exact ⟨v', w', hrun, ⟨by simp [hown.len, p1], by simpa using h2⟩, (Below.refl base w).grown h3 hb hrow, h3⟩
  by_cases hm : 0 < m
  · obtain ⟨b, off, rfl, hlt, hc⟩ := p7 hm
    refine key _ rfl (fun j u hj => ?_)
    obtain ⟨j', x, i, rfl, hx, hu⟩ := flat_inv encN_len _ _ _ hj
    rw [Addr.add_lit, ← Nat.add_assoc]
    exact hc j' x hx i u hu
  · obtain rfl : m = 0 := by omega
    obtain rfl : p = [] := List.length_eq_zero_iff.1 p1
    cases ao with
    | none =>
      obtain ⟨_, rfl⟩ := p6 rfl
      have hrun := run_append_owned_none (P := Try.prog) (w := w) base 36 ty 3 i0 1 Try.underlying36 hi v n _ hown.2
      exact ⟨v, w, hrun, by simpa using hown, Below.refl _ _, World.grownBy.refl _ _⟩
    | some ad => exact key ad rfl (fun j u hj => by simp at hj)
/-- What another row grows by leaves a slice as it is. -/
theorem HoldsE.grow {α : Type} {k : Nat} {enc : α → List Value} {w w' : World} {a : Option Addr} {len cap : Nat} {l : List α} {row : Option Nat} (h : HoldsE k enc w a len cap l) (hg : w.grownBy w' row) (hr : ∀ x o, a = some ⟨x, o, none⟩ → 0 < len → some x ≠ row) : HoldsE k enc w' a len cap l := by
  obtain ⟨h1, h2, h3, h4, h5⟩ := h
  refine ⟨h1, h2, h3, h4, fun hp => ?_⟩
  obtain ⟨x, off, e, hlt, hc⟩ := h5 hp
  refine ⟨x, off, e, Nat.lt_of_lt_of_le hlt hg.size, fun j y hy i v hv => ?_⟩
  exact (World.cell?_of_block (w := w) (hg.block x hlt (hr x off e hp))).trans (hc j y hy i v hv)

end Go.Proofs.Ytdenhpclopjjgaa
