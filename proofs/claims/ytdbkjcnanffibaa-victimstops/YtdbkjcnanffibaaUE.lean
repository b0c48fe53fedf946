/-
  Contracts of victim: Uses, lasting.
-/
import Derived.Test.YtdbkjcnanffibaaUD
namespace Go.Proofs.Ytdbkjcnanffibaa
open Go.RowKit Go.Deep Go.Maps Go.Shelf
set_option linter.unusedVariables false
set_option linter.unusedSimpArgs false

/-- What 'Uses' answers. -/
def AnsS (lo : Nat) (w : World) (v : Value) (er : Int) (l : List Le) : Prop :=
  (er ≠ 0 ∧ v = .slice none 0 0) ∨ (er = 0 ∧ ∃ ids, RiseOf (fun q => hasT l q l.length) ids ∧ ids.length ≤ l.length ∧ OwnE 45 3 Us.cs lo w v ids.length (usesOf (fun q => useT l q l.length) ids))
theorem AnsS.below {lo : Nat} {w w' : World} {v : Value} {er : Int} {l : List Le} (h : AnsS lo w v er l) (hb : Below w.heap.size w w') : AnsS lo w' v er l := by
  rcases h with h | ⟨h0, ids, h1, h2, h3⟩
  · exact .inl h
  · exact .inr ⟨h0, ids, h1, h2, h3.below hb⟩

set_option maxHeartbeats 2000000 in
theorem uuses_any (a : Option Addr) (len cap : Nat) (l : List Le) (w : World) (h : HoldsL w a len cap l) (hok : ∀ x ∈ l, x.okB) (hn : len * 24 ≤ 140737488355328) :
    Calls Try.prog 8 #[.slice a len cap] w fun e w' => ∃ v, e = .returned (.tuple #[v, .int .i64 (useErr l)]) ∧ AnsS w.heap.size w' v (useErr l) l ∧ Below w.heap.size w w' := by
  have HL := hid h.1.1
  have AD := hid (uadd_any a len cap l w h hok)
  clear h hok
  generalize hE : useErr l = E at *
  clear hE
  by_cases he : E = 0
  · subst he
    go_enter Try.func8, Try.ntmps8
    go_wp2_with fail
    refine AD.out.mono ?_
    rintro e w1 ⟨v1, rfl, o1, b1⟩
    have o2 : ∃ b, v1 = .map (some b) ∧ w.heap.size ≤ b ∧ UM w1 b l.length (fun q => hasT l q l.length) (fun q => useT l q l.length) := by
      rcases o1 with ⟨h, _⟩ | ⟨_, h⟩
      · exact absurd rfl h
      · exact h
    obtain ⟨b, rfl, hlo, hU⟩ := o2
    have LI := hid (ulist_any w1 hU (by rw [HL.out]; exact hn))
    have B1 := hid b1
    clear o1 hU b1 AD
    go_wp2_with fail
    refine LI.out.mono ?_
    rintro e w2 ⟨v2, ids, rfl, hR, hle, hO, b2⟩
    have B2 := hid (B1.out.trans (b2.mono B1.out.size))
    have AN : Hid (AnsS w.heap.size w2 v2 0 l) := .inr ⟨rfl, ids, hR, hle, hO.weaken B1.out.size⟩
    clear hR hO b2 LI
    go_wp2_with fail
    go_ret2
    exact ⟨_, rfl, AN.out, B2.out⟩
  · have t : (E != 0) = true := by simpa using he
    have HE := hid he
    clear he
    go_enter Try.func8, Try.ntmps8
    go_wp2_with fail
    refine AD.out.mono ?_
    rintro e w1 ⟨v1, rfl, o1, b1⟩
    clear o1
    go_wp2_with fail
    go_ret2
    exact ⟨_, rfl, .inl ⟨HE.out, rfl⟩, b1⟩
end Go.Proofs.Ytdbkjcnanffibaa
