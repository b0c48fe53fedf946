/-
  Memory apart: what writes to one block leave.
-/
import Derived.Test.YtcfaciicljjpoaaQZ
import Derived.Test.YtcfaciicljjpoaaRC
import Derived.Test.YtcfaciicljjpoaaRF
namespace Go.Proofs.Ytcfaciicljjpoaa
open Go.RowKit Go.Deep Go.Maps Go.Shelf
set_option linter.unusedVariables false

theorem HoldsE.same {α : Type} {k : Nat} {enc : α → List Value} {w w' : World} {a : Option Addr} {len cap : Nat} {l : List α} (h : HoldsE k enc w a len cap l) (hs : w.heap.size ≤ w'.heap.size) (hb : ∀ b off, 0 < len → a = some ⟨b, off, none⟩ → w'.heap[b]? = w.heap[b]?) : HoldsE k enc w' a len cap l := by
  obtain ⟨h1, h2, h3, h4, h5⟩ := h
  refine ⟨h1, h2, h3, h4, fun hp => ?_⟩
  obtain ⟨b, off, e, hlt, hc⟩ := h5 hp
  exact ⟨b, off, e, Nat.lt_of_lt_of_le hlt hs, fun j x hx i v hv => (World.cell?_of_block (hb b off hp e)).trans (hc j x hx i v hv)⟩

theorem HoldsE.lt {α : Type} {k : Nat} {enc : α → List Value} {w : World} {a : Option Addr} {len cap : Nat} {l : List α} (h : HoldsE k enc w a len cap l) (b off : Nat) (hp : 0 < len) (e : a = some ⟨b, off, none⟩) : b < w.heap.size := by
  obtain ⟨b', off', e', hlt, _⟩ := h.2.2.2.2 hp
  rw [e] at e'
  cases e'
  exact hlt

/-- Only one block was written. -/
def Wrote (g : Nat) (w w' : World) : Prop := w'.heap.size = w.heap.size ∧ (∀ i, i ≠ g → w'.heap[i]? = w.heap[i]?) ∧ (∀ j, (w.cell? ⟨g, j, none⟩).isSome = true → (w'.cell? ⟨g, j, none⟩).isSome = true) ∧ (∀ j, w'.frozen? ⟨g, j, none⟩ = w.frozen? ⟨g, j, none⟩)
theorem Wrote.refl (g : Nat) (w : World) : Wrote g w w := ⟨rfl, fun _ _ => rfl, fun _ h => h, fun _ => rfl⟩
theorem Wrote.set {g o : Nat} {w w' : World} {v : Value} (h : Wrote g w w') : Wrote g w (w'.setCell ⟨g, o, none⟩ v) := by
  refine ⟨by have := h.1; simpa [World.setCell] using this, fun i hi => (Below.heap_setCell _ _ _ _ (by simpa using hi)).trans (h.2.1 i hi), fun j hj => ?_, fun j => by rw [World.frozen?_setCell]; exact h.2.2.2 j⟩
  exact World.isSome_setCells g [v] o w' _ (h.2.2.1 j hj)

theorem addR_len (l : List Qu) (q : Qu) : (addR l q).length ≤ 64 := by
  unfold addR
  split
  · rename_i h
    unfold addE at h
    split at h
    · rename_i h2; exact absurd h h2
    · split at h
      · cases h
      · split at h
        · cases h
        · split at h
          · cases h
          · exact (chkE_ok.1 h).1
  · simp
theorem setR_len (l : List Qu) (q : Qu) : (setR l q).length ≤ 64 := by
  unfold setR
  split
  · rename_i h
    unfold setE at h
    split at h
    · rename_i h2; exact absurd h h2
    · split at h
      · cases h
      · split at h
        · cases h
        · exact (chkE_ok.1 h).1
  · simp
theorem downR_lenG (l : List Qu) (id : Int) : (downR l id).length ≤ 64 := by
  unfold downR
  split
  · rename_i h
    have hc : chkE l = 0 := by unfold thereE at h; split at h <;> simp_all
    unfold idsAt
    rw [List.length_map]
    exact filter_len (chkE_ok.1 hc).1
  · simp

set_option maxRecDepth 100000 in
set_option maxHeartbeats 2000000 in
theorem twin_free (a : Option Addr) (len cap : Nat) (l : List Qu) (w : World) (h : HoldsQ w a len cap l) (hs : cap * 56 ≤ 140737488351232) :
    Calls Try.prog 12 #[.slice a len cap] w fun e w' => ∃ g c, e = .returned (.slice (some ⟨g, 0, none⟩) len c) ∧ Twin w.heap.size w' g len c l ∧ g < w'.heap.size ∧ (∀ j, w'.frozen? ⟨g, j, none⟩ = false) ∧ Below w.heap.size w w' := by
  have h1 := hid (h.below ((Below.refl _ w).alloc (Nat.le_refl _) (.cells #[] 26)))
  have o1 := hid (OwnE.lit 26 7 Qu.cs w)
  have hlc := h.2.1
  clear h
  go_enter Try.func12, Try.ntmps12
  go_wp2_with (at_builtin; refine cat_ownE 22 26 _ 56 Qu.cs_len Qu.one Try.underlying22 infoQ rfl (by decide) _ rfl (.tmp 3) (.tmp 4) rfl w.heap.size 0 _ [] rfl o1.out (by simp) a len cap l rfl h1.out (by omega) (by omega) ?_)
  intro v1 w1 hown1 hb1 _
  have hB1 : Below w.heap.size w w1 := Below.trans ((Below.refl _ w).alloc (Nat.le_refl _) _) hb1
  have O1 := hid hown1
  clear hown1 hb1
  go_wp2_with (at_builtin; refine push_ownE 22 26 _ 56 Qu.cs_len Qu.one Try.underlying22 infoQ rfl (by decide) w1 q71 rfl (.tmp 5) (.tmp 7) rfl w.heap.size len _ l _ rfl rfl O1.out hB1.size rfl (by omega) (by omega) ?_)
  intro v2 w2 hown2 hb2 _
  obtain ⟨g2, c2, rfl⟩ : ∃ g c, v2 = .slice (some ⟨g, 0, none⟩) (len + 1) c := by
    rcases hown2.2.2 with ⟨_, h0⟩ | ⟨g, cap', cur, hv, _⟩
    · omega
    · exact ⟨g, cap', hv⟩
  have hh := hown2.holds Qu.cs_len
  have hcc := hh.2.1
  have hcm := hh.2.2.1
  obtain ⟨_, _, hfz, _, _, _, _, hgl⟩ := own_cells hown2
  have FZ := hid hfz
  have T2 : Hid (Twin w.heap.size w2 g2 len c2 l) := ⟨(hown2.lt g2 rfl).1, hh⟩
  have hB2 := hB1.trans hb2
  clear hown2 hb2 hh hfz
  go_wp2
  go_ret
  exact ⟨_, _, rfl, T2.out, hgl, FZ.out, hB2⟩

/-- The block of an answer of numbers, where there is one. -/
theorem ownN_block {base n : Nat} {w : World} {v : Value} {m : List Int} (h : OwnN base w v n m) (hn : 0 < n) : ∃ g cap, v = .slice (some ⟨g, 0, none⟩) n cap ∧ base ≤ g ∧ g < w.heap.size ∧ n ≤ cap ∧ cap ≤ 9223372036854775807 ∧ (∀ j, j < n → (w.cell? ⟨g, j, none⟩).isSome = true) ∧ (∀ j, w.frozen? ⟨g, j, none⟩ = false) := by
  rcases h.2.2 with ⟨_, h0⟩ | ⟨g, cap, cur, rfl, hg, hh, hc, hm, hs, ht⟩
  · omega
  · refine ⟨g, cap, rfl, hg, (Array.getElem?_eq_some_iff.1 hh).1, hc, by unfold maxLen at hm; omega, fun j hj => ?_, fun j => by simp [World.frozen?, hh]⟩
    rw [cell_of_row w g j cur _ (0, 0) hh, Array.getElem?_eq_getElem (by omega)]; rfl
/-- The block of an answer of queues. -/
theorem AnsQ.block {base : Nat} {w : World} {v : Value} {m : List Qu} (h : AnsQ base w v m) : ∃ a cap, v = .slice a m.length cap ∧ HoldsQ w a m.length cap m ∧ ∀ b off sp, a = some ⟨b, off, sp⟩ → base ≤ b := by
  rcases h with ⟨rfl, rfl⟩ | ⟨g, cap, rfl, hg, hh⟩
  · exact ⟨none, 0, rfl, ⟨rfl, Nat.le_refl _, by omega, fun _ => ⟨rfl, rfl⟩, fun h => absurd h (by simp)⟩, fun _ _ _ e => by cases e⟩
  · exact ⟨_, _, rfl, hh, fun b off sp e => by cases e; exact hg⟩
theorem AnsN.block {base : Nat} {w : World} {v : Value} {m : List Int} (h : AnsN base w v m) : ∃ a cap, v = .slice a m.length cap ∧ HoldsN w a m.length cap m ∧ ∀ b off sp, a = some ⟨b, off, sp⟩ → base ≤ b := by
  unfold AnsN at h
  obtain ⟨a, cap, rfl⟩ := h.form
  refine ⟨a, cap, rfl, h.holds encN_len, fun b off sp e => ?_⟩
  subst e
  rcases h.2.2 with ⟨hv, _⟩ | ⟨g, cap', cur, hv, hg, _⟩
  · simp at hv
  · simp at hv
    obtain ⟨⟨rfl, _⟩, _⟩ := hv
    exact hg

end Go.Proofs.Ytcfaciicljjpoaa
