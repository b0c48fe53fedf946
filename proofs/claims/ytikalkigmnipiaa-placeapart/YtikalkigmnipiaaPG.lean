/-
  Contracts of place: the first free cores of a room; the tightest room.
-/
import Derived.Test.YtikalkigmnipiaaPF
namespace Go.Proofs.Ytikalkigmnipiaa
open Go.RowKit Go.Deep Go.Maps Go.Shelf
set_option linter.unusedVariables false
set_option linter.unusedSimpArgs false

/-- A list of numbers in new memory, without room behind it. -/
def NewN (N : Nat) (w : World) (v : Value) (n : Nat) (l : List Int) : Prop := (v = .slice none 0 0 ∧ n = 0 ∧ l = []) ∨ ∃ g, v = .slice (some ⟨g, 0, none⟩) n n ∧ N ≤ g ∧ g < w.heap.size ∧ HoldsN w (some ⟨g, 0, none⟩) n n l ∧ ∀ j, w.frozen? ⟨g, j, none⟩ = false
theorem NewN.below {N : Nat} {w w' : World} {v : Value} {n : Nat} {l : List Int} (h : NewN N w v n l) (hb : Below w.heap.size w w') : NewN N w' v n l := by
  rcases h with h | ⟨g, h1, h2, h3, h4, h5⟩
  · exact .inl h
  · exact .inr ⟨g, h1, h2, Nat.lt_of_lt_of_le h3 hb.size, h4.below hb, fun j => (hb.frozen (p := ⟨g, j, none⟩) h3).trans (h5 j)⟩
theorem NewN.holds {N : Nat} {w : World} {v : Value} {n : Nat} {l : List Int} (h : NewN N w v n l) : ∃ a, v = .slice a n n ∧ HoldsN w a n n l := by
  rcases h with ⟨rfl, rfl, rfl⟩ | ⟨g, h1, h2, h3, h4, h5⟩
  · exact ⟨none, rfl, rfl, by omega, by omega, fun _ => ⟨rfl, rfl⟩, fun h => absurd h (by omega)⟩
  · exact ⟨_, h1, h4⟩
theorem NewN.weaken {N M : Nat} {w : World} {v : Value} {n : Nat} {l : List Int} (h : NewN N w v n l) (hm : M ≤ N) : NewN M w v n l := by
  rcases h with h | ⟨g, h1, h2, h3⟩
  · exact .inl h
  · exact .inr ⟨g, h1, by omega, h3⟩
theorem HoldsE.takeN {w : World} {a : Option Addr} {len cap : Nat} {l : List Int} (h : HoldsN w a len cap l) {n : Nat} (hn : n ≤ len) (ha : a ≠ none) : HoldsN w a n n (l.take n) := by
  obtain ⟨h1, h2, h3, h4, h5⟩ := h
  refine ⟨by rw [List.length_take]; omega, by omega, by omega, fun e => absurd e ha, fun hp => ?_⟩
  obtain ⟨b, off, e, hlt, hc⟩ := h5 (by omega)
  refine ⟨b, off, e, hlt, fun j x hx => hc j x ?_⟩
  rw [List.getElem?_take] at hx
  split at hx
  · exact hx
  · cases hx

set_option maxRecDepth 100000 in
set_option maxHeartbeats 4000000 in
theorem first_any (g o N cn : Nat) (r : Rm) (w : World) (hr : w.rangeAt g o r.cs) (hN : r.nd.co = (N : Int)) (h64 : N ≤ 64) (hcn : cn ≤ (freeT r.tk N).length) :
    Calls Try.prog 39 #[.pointer (some ⟨g, o, none⟩), .int .i64 (cn : Int)] w fun e w' => ∃ v, e = .returned v ∧ NewN w.heap.size w' v cn ((freeT r.tk N).take cn) ∧ Below w.heap.size w w' := by
  have q1 := hr 1 _ r.at_co
  rw [hN] at q1
  have HR := hid hr
  have HC := hid hcn
  have na1 : (0 : Int) ≤ (N : Int) := by omega
  have na2 : (N : Int) ≤ 64 := by omega
  clear hr hN hcn
  go_enter Try.func39, Try.ntmps39
  go_wp2_with fail
  go_quiet (fail)
  go_wp2_with fail
  go_loopw [18, 5] (fun i v wr => ∃ k : Nat, k ≤ N ∧ i = .int .i64 (k : Int) ∧ Hid (OwnN w.heap.size wr v (freeT r.tk k).length (freeT r.tk k)) ∧ Hid (Below w.heap.size w wr)) (fun i _ _ => N - (intOf i).toNat)
  case atStart => exact ⟨0, by omega, rfl, OwnE.nil _ _ _ _ _, below_drewN (Below.refl _ _) _⟩
  case round =>
    obtain ⟨k, hk, rfl, ho, hB⟩ := hrel
    clear q1
    by_cases hlt : k < N
    · have q0 := keepc hB.out (HR.out (5 + k) _ (r.at_tk k (by omega)))
      rw [← Nat.add_assoc] at q0
      have ka : (0 : Int) ≤ (k : Int) := by omega
      have kb : (k : Int) < (N : Int) := by omega
      have FS := hid (freeT_succ r.tk k)
      have FL := freeT_le r.tk k
      cases hb : r.tk k
      · rw [hb] at q0 FS
        have FS' : Hid (freeT r.tk (k + 1) = freeT r.tk k ++ [(k : Int)]) := FS.out
        clear hb FS
        generalize hF : freeT r.tk k = FR at *
        have HF := hid hF
        clear hF
        go_wp2_with (at_builtin; refine push_ownN wr (k : Int) rfl (.tmp 25) (.tmp 27) rfl w.heap.size _ u5 _ rfl ho.out hB.out.size rfl (by omega) ?_)
        intro v6 w6 o6 b6 g6
        have O6 : Hid (OwnN w.heap.size w6 v6 (freeT r.tk (k + 1)).length (freeT r.tk (k + 1))) := by unfold Hid; rw [FS'.out, List.length_append]; exact o6
        have B6 := hid (hB.out.trans b6)
        clear o6 b6 g6 ho
        go_wp2
        go_roundw
        case rel => exact ⟨k + 1, by omega, by go_num, O6, B6⟩
        case measure => simp [intOf]; omega
      · rw [hb] at q0 FS
        have FS' : Hid (freeT r.tk (k + 1) = freeT r.tk k) := by unfold Hid; rw [FS.out]; simp
        rw [← FS'.out] at ho
        clear hb FS
        go_wp2
        go_roundw
        case rel => exact ⟨k + 1, by omega, by go_num, ho, hB⟩
        case measure => simp [intOf]; omega
    · obtain rfl : k = N := by omega
      have c1 : (0 : Int) ≤ (cn : Int) := by omega
      have hcn := HC.out
      have HO := hid ho.out
      rcases ho.out.2.2 with ⟨hv, hn0⟩ | ⟨g2, cap2, cur, hv, hg2, hh, hc, hm, hs, ht⟩
      · obtain rfl : cn = 0 := by omega
        subst hv
        clear ho HO
        go_wp2
        go_ret
        exact ⟨_, rfl, .inl ⟨rfl, rfl, by simp⟩, hB.out⟩
      · subst hv
        have c2 : (cn : Int) ≤ (cap2 : Int) := by omega
        have c3 : cn ≤ cap2 := by omega
        have HN : Hid (NewN w.heap.size wr (.slice (some ⟨g2, 0, none⟩) cn cn) cn ((freeT r.tk k).take cn)) :=
          .inr ⟨g2, rfl, hg2, (Array.getElem?_eq_some_iff.1 hh).1, (HO.out.holds encN_len).takeN hcn (by simp), fun j => by simp [World.frozen?, hh]⟩
        clear ho HO hh hc hm hs ht hg2
        generalize (freeT r.tk k).length = M at *
        go_wp2
        go_ret
        exact ⟨_, rfl, HN.out, hB.out⟩

end Go.Proofs.Ytikalkigmnipiaa
