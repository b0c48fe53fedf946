/-
  The statements' twin of a list, and whether it was kept.
-/
import Derived.Test.YtdomimpcjkajiaaQS
namespace Go.Proofs.Ytdomimpcjkajiaa
open Go.RowKit Go.Deep Go.Maps Go.Shelf
set_option linter.unusedVariables false

def q71 : Qu := ⟨71, 0, 0, 0, 0, 0, 0⟩
/-- A twin: a row in memory of its own, and something behind it. -/
def Twin (base : Nat) (w : World) (g n cap : Nat) (l : List Qu) : Prop := base ≤ g ∧ HoldsQ w (some ⟨g, 0, none⟩) (n + 1) cap (l ++ [q71])
theorem Twin.below {base g n cap : Nat} {w w' : World} {l : List Qu} (h : Twin base w g n cap l) (hb : Below w.heap.size w w') : Twin base w' g n cap l := ⟨h.1, h.2.below hb⟩
theorem Twin.holds {base g n cap : Nat} {w : World} {l : List Qu} (h : Twin base w g n cap l) : HoldsQ w (some ⟨g, 0, none⟩) n cap l := by
  obtain ⟨_, h1, h2, h3, h4, h5⟩ := h
  have hl : l.length = n := by simp at h1; omega
  refine ⟨hl, by omega, h3, (fun e => by cases e), fun hp => ?_⟩
  obtain ⟨b, off, e, hlt, hc⟩ := h5 (by omega)
  refine ⟨b, off, e, hlt, fun j x hx => hc j x ?_⟩
  rw [List.getElem?_append_left (List.getElem?_eq_some_iff.1 hx).1]; exact hx

set_option maxRecDepth 100000 in
set_option maxHeartbeats 2000000 in
theorem twin_any (a : Option Addr) (len cap : Nat) (l : List Qu) (w : World) (h : HoldsQ w a len cap l) (hs : cap * 56 ≤ 140737488351232) :
    Calls Try.prog 13 #[.slice a len cap] w fun e w' => ∃ g c, e = .returned (.slice (some ⟨g, 0, none⟩) len c) ∧ Twin w.heap.size w' g len c l ∧ Below w.heap.size w w' := by
  have h1 := hid (h.below ((Below.refl _ w).alloc (Nat.le_refl _) (.cells #[] 38)))
  have o1 := hid (OwnE.lit 38 7 Qu.cs w)
  have hlc := h.2.1
  clear h
  go_enter Try.func13, Try.ntmps13
  go_wp2_with (at_builtin; refine cat_ownE 22 38 _ 56 Qu.cs_len Qu.one Try.underlying22 infoQ rfl (by decide) _ rfl (.tmp 3) (.tmp 4) rfl w.heap.size 0 _ [] rfl o1.out (by simp) a len cap l rfl h1.out (by omega) (by omega) ?_)
  intro v1 w1 hown1 hb1 _
  have hB1 : Below w.heap.size w w1 := Below.trans ((Below.refl _ w).alloc (Nat.le_refl _) _) hb1
  have O1 := hid hown1
  clear hown1 hb1
  go_wp2_with (at_builtin; refine push_ownE 22 38 _ 56 Qu.cs_len Qu.one Try.underlying22 infoQ rfl (by decide) w1 q71 rfl (.tmp 5) (.tmp 7) rfl w.heap.size len _ l _ rfl rfl O1.out hB1.size rfl (by omega) (by omega) ?_)
  intro v2 w2 hown2 hb2 _
  obtain ⟨g2, c2, rfl⟩ : ∃ g c, v2 = .slice (some ⟨g, 0, none⟩) (len + 1) c := by
    rcases hown2.2.2 with ⟨_, h0⟩ | ⟨g, cap', cur, hv, _⟩
    · omega
    · exact ⟨g, cap', hv⟩
  have hh := hown2.holds Qu.cs_len
  have hcc := hh.2.1
  have hcm := hh.2.2.1
  have T2 : Hid (Twin w.heap.size w2 g2 len c2 l) := ⟨(hown2.lt g2 rfl).1, hh⟩
  have hB2 := hB1.trans hb2
  clear hown2 hb2 hh
  go_wp2
  go_ret
  exact ⟨_, _, rfl, T2.out, hB2⟩

set_option maxRecDepth 100000 in
set_option maxHeartbeats 2000000 in
theorem kept_any (base g len c : Nat) (a : Option Addr) (cap : Nat) (l : List Qu) (w : World) (hT : Twin base w g len c l) (h : HoldsQ w a len cap l) (hm : len ≤ 140737488351232) :
    Calls Try.prog 18 #[.slice (some ⟨g, 0, none⟩) len c, .slice a len cap] w fun e w' => e = .returned (.bool true) ∧ Below w.heap.size w w' := by
  have HS := hid (same_any _ _ len c cap l w hT.holds h (by omega))
  have HT := hid hT
  have hcc := hT.2.2.1
  have hcm := hT.2.2.2.1
  clear hT h
  go_enter Try.func18, Try.ntmps18
  go_wp2_with fail
  refine HS.out.mono ?_
  rintro e w1 ⟨rfl, b1⟩
  have c71 : w1.cell? ⟨g, len * 7, none⟩ = some (.int .i64 71) := by
    obtain ⟨b', off', e, hR⟩ := (HT.out.2.below b1).row (by omega)
    cases e
    have hl := HT.out.2.1
    have := (hR.2 len (by omega)).1
    have e2 : qa (l ++ [q71]) len = q71 := by
      unfold qa
      have hl2 : l.length = len := by simp at hl; omega
      rw [List.getElem?_append_right (by omega), hl2, Nat.sub_self]
      rfl
    rw [e2, Nat.zero_add] at this
    exact this
  go_wp2
  go_ret
  exact ⟨rfl, b1⟩

end Go.Proofs.Ytdomimpcjkajiaa
