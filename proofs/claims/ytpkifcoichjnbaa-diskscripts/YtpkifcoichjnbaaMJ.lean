/-
  One disk, and what else is kept.
-/
import Derived.Test.YtpkifcoichjnbaaMD
namespace Go.Proofs.Ytpkifcoichjnbaa
open Go.RowKit Go.Deep Go.Maps
set_option linter.unusedVariables false
set_option linter.unusedSimpArgs false
def One (w W : World) (K : Nat → Prop) (D : Nat) (bs : List (List Int)) (ls : List Ws) : Prop :=
  ∃ F : Nat → Prop, Dk F W D bs ls ∧ (∀ q, F q → w.heap.size ≤ q) ∧ (∀ q, K q → q < W.heap.size ∧ ¬ F q) ∧ Below w.heap.size w W
section
variable {w W W' : World} {K : Nat → Prop} {D : Nat} {bs : List (List Int)} {ls : List Ws}
theorem One.bel (h : One w W K D bs ls) : Below w.heap.size w W := by obtain ⟨_, _, _, _, h⟩ := h; exact h
theorem One.below (h : One w W K D bs ls) (k : Below W.heap.size W W') : One w W' K D bs ls := by
  obtain ⟨F, h1, h4, h6, h7⟩ := h
  exact ⟨F, h1.below k, h4, fun q hq => ⟨Nat.lt_of_lt_of_le (h6 q hq).1 k.size, (h6 q hq).2⟩, h7.trans (k.mono h7.size)⟩
theorem One.drop (h : One w W K D bs ls) : One w W No D bs ls := by
  obtain ⟨F, h1, h4, h6, h7⟩ := h
  exact ⟨F, h1, h4, fun q hq => hq.elim, h7⟩
/-- A block that has come is kept. -/
theorem One.come (h : One w W K D bs ls) (k : Below W.heap.size W W') {q : Nat} (h0 : W.heap.size ≤ q) (h1 : q < W'.heap.size) : One w W' (fun g => g = q) D bs ls := by
  obtain ⟨F, g1, g4, g6, g7⟩ := h
  exact ⟨F, g1.below k, g4, fun g hg => ⟨by subst hg; exact h1, fun hf => by have := g1.lt g hf; omega⟩, g7.trans (k.mono g7.size)⟩
/-- A cell of what is kept is turned. -/
theorem One.turn (h : One w W K D bs ls) (a : Addr) (v : Value) (ha : K a.block) (hw : w.heap.size ≤ a.block) : One w (W.setCell a v) K D bs ls := by
  obtain ⟨F, g1, g4, g6, g7⟩ := h
  have o := (Onl.refl (fun q => q = a.block) W).setCell a v (.inl rfl)
  exact ⟨F, g1.onl o (fun q hq e => by subst e; exact (g6 _ ha).2 hq), g4, fun q hq => ⟨Nat.lt_of_lt_of_le (g6 q hq).1 o.size, (g6 q hq).2⟩, g7.setCell (p := a) hw v⟩
theorem one_write (h : One w W K D bs ls) (n : Int) {pa : Option Addr} {pn pc : Nat} {l : List Int} (hl : HoldsB w pa pn pc l) (hm : ls.length ≤ 1000000) :
    Calls Try.prog 10 #[.pointer (some ⟨D, 0, none⟩), .int .i64 n, .slice pa pn pc] W fun e w' => e = .returned (.int .i64 (wE bs.length n l.length)) ∧ One w w' K D (wB bs n l) (wL bs ls n l) ∧ (∀ q, K q → w'.heap[q]? = W.heap[q]?) := by
  obtain ⟨F, h1, h4, h6, h7⟩ := h
  refine (write_op F D bs ls n pa pn pc l W h1 (hl.below h7) (fun b o e hp hf => by have := holdsB_lt hl e hp; have := h4 b hf; omega) hm).mono ?_
  rintro e w' ⟨rfl, ⟨F', hd, hs⟩, ho⟩
  exact ⟨rfl, ⟨F', hd, fun q hq => (hs q hq).elim (h4 q) (fun h => by have := h7.size; omega), fun q hq => ⟨Nat.lt_of_lt_of_le (h6 q hq).1 ho.size, fun hf => (hs q hf).elim (h6 q hq).2 (fun h => by have := (h6 q hq).1; omega)⟩, ho.below h7 h4⟩, fun q hq => ho.block q (h6 q hq).1 (h6 q hq).2⟩
theorem one_read (h : One w W K D bs ls) {k : Nat} (hk : k < bs.length) :
    Calls Try.prog 16 #[.pointer (some ⟨D, 0, none⟩), .int .i64 (k : Int)] W fun e w' => ∃ q, e = .returned (.tuple #[.slice (some ⟨q, 0, none⟩) 64 64, .int .i64 0]) ∧ W.heap.size ≤ q ∧ Blk w' q 59 (bk bs[k]).toArray ∧ Below W.heap.size W w' := by
  obtain ⟨F, h1, _⟩ := h
  exact read_in F D bs ls k W h1 hk
theorem one_miss (h : One w W K D bs ls) {n : Int} (hn : ¬ (0 ≤ n ∧ n < bs.length)) :
    Calls Try.prog 16 #[.pointer (some ⟨D, 0, none⟩), .int .i64 n] W fun e w' => e = .returned (.tuple #[.slice none 0 0, .int .i64 8]) ∧ W = w' := by
  obtain ⟨F, h1, _⟩ := h
  exact read_out F D bs ls n W h1 hn
end
theorem wB_other {bs : List (List Int)} {n : Int} {l : List Int} {k : Nat} (hk : k < bs.length) (hne : n ≠ (k : Int)) : (wB bs n l)[k]'(by rw [wB_len]; exact hk) = bs[k] := by
  unfold wB
  split
  · rename_i hw
    have := hw.1
    rw [List.getElem_set_ne (by omega)]
  · rfl
theorem wB_self {bs : List (List Int)} {l : List Int} {k : Nat} (hk : k < bs.length) (hE : wE bs.length (k : Int) l.length = 0) : (wB bs (k : Int) l)[k]'(by rw [wB_len]; exact hk) = l := by
  unfold wB
  simp only [if_pos (wE_ok.1 hE), Int.toNat_natCast, List.getElem_set_self]
theorem pad_part {W : World} {q t : Nat} {b : List Int} (hb : BB b) (hl : b.length ≤ 64) (h : Blk W q t (bk b).toArray) : HoldsB W (some ⟨q, 0, none⟩) b.length 64 b := by
  have H := pad_holds hb h
  refine ⟨rfl, by omega, by omega, by omega, hb, fun e => (by cases e), fun hp => ?_⟩
  obtain ⟨b', off, e, hc⟩ := H.2.2.2.2.2.2 (by omega)
  refine ⟨b', off, e, fun i hi => ?_⟩
  rw [hc i (by omega)]
  unfold pad
  rw [List.getElem?_map, List.getElem?_range (by omega)]
  rfl
/-- Sixty-four bytes, whatever they are. -/
def Any64 (W : World) (q : Nat) : Prop := ∃ cs : Array Value, Blk W q 59 cs ∧ cs.size = 64 ∧ ∀ i, i < 64 → ∃ x : Int, cs[i]? = some (.int .u8 x)
theorem Any64.of {W : World} {q : Nat} {b : List Int} (h : Blk W q 59 (bk b).toArray) : Any64 W q :=
  ⟨_, h, by rw [List.size_toArray, bk_len], fun i hi => ⟨_, by rw [List.getElem?_toArray]; exact bk_at b hi⟩⟩
theorem Any64.put {W : World} {q i : Nat} (h : Any64 W q) (x : Int) : Any64 (W.setCell ⟨q, i, none⟩ (.int .u8 x)) q := by
  obtain ⟨cs, h1, h2, h3⟩ := h
  refine ⟨_, h1.put _, by simpa using h2, fun j hj => ?_⟩
  by_cases e : j = i
  · subst e
    exact ⟨x, by rw [Array.getElem?_setIfInBounds_self_of_lt (by omega)]⟩
  · rw [Array.getElem?_setIfInBounds_ne (Ne.symm e)]
    exact h3 j hj
end Go.Proofs.Ytpkifcoichjnbaa
