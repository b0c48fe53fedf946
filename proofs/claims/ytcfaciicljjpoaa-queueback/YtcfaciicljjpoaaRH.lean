/-
  Contracts of the library at lists of queues: Grow, Concat of two.
-/
import Derived.Test.YtcfaciicljjpoaaQN
namespace Go.Proofs.Ytcfaciicljjpoaa
open Go.RowKit Go.Deep Go.Maps Go.Shelf
set_option linter.unusedVariables false

set_option maxRecDepth 100000 in
set_option maxHeartbeats 4000000 in
theorem grow_nil (m : Nat) (w : World) (h1 : 1 ≤ m) (h2 : m ≤ 64) :
    Calls Try.prog 80 #[.slice none 0 0, .int .i64 (m : Int)] w fun e w' => ∃ v, e = .returned v ∧ OwnQ w.heap.size w' v 0 [] ∧ Below w.heap.size w w' := by
  obtain ⟨i0, hi0, hz0, hzs, hzb⟩ := info_parts infoQ
  have hold : (Builtin.firstCells i0.size 0 (.slice none 0 0)).run Try.prog w.drew = .ok ([] : List Value).toArray w.drew := run_firstCells_none w.drew i0.size 0 0 0
  obtain ⟨G, hG⟩ : ∃ G, G = grownCap w m 0 26 := ⟨_, rfl⟩
  obtain ⟨Z, hZ⟩ : ∃ Z : Value, Z = .agg #[.int .i64 0, .int .i64 0, .int .i64 0, .int .i64 0, .int .i64 0, .int .i64 0, .int .i64 0] := ⟨_, rfl⟩
  rw [← hZ] at hz0
  obtain ⟨ROW, hROW⟩ : ∃ ROW : Array Value, ROW = ([] : List Value).toArray ++ Builtin.zeroCells Z.cells m ++ Builtin.zeroCells Z.cells (G - m) := ⟨_, rfl⟩
  have hrz : ∀ ty, (Builtin.append_ #[22, 3] ty #[.slice none 0 0, .int .i64 (m : Int)]).run Try.prog w = .ok (.slice (some ⟨w.heap.size, 0, none⟩) m G) (w.drew.alloc (.cells ROW 26)) := fun ty => by
    have h := Lib.run_append_grow_zeros w 22 3 ty 26 i0 Z .i64 .i64 Try.underlying22 Try.underlying3 hi0 hz0 none 0 0 [] hold m (by omega) (by rw [hzs]; decide) (by omega) (by omega) (by rw [hzb]; omega) (by rw [hzb, Nat.zero_add]; exact growslice_fits (by omega) (by omega))
    rw [Nat.zero_add, ← hG, ← hROW] at h
    exact h
  have hGn : m ≤ G := by rw [hG]; exact grownCap_ge w _ _ _
  have hGm : G ≤ maxLen := by rw [hG]; exact grownCap_le_maxLen w m 0 26 (by unfold maxLen; omega)
  have hG63 : G ≤ 9223372036854775807 := by unfold maxLen at hGm; omega
  have hZl : ∀ k, (Builtin.zeroCells Z.cells k).size = k * 7 := fun k => by rw [hZ]; simp [Builtin.zeroCells, Value.cells]
  have hRl : ROW.size = G * 7 := by
    rw [hROW]
    simp only [Array.size_append, hZl, List.size_toArray, List.length_nil]
    omega
  have HO : Hid (OwnQ w.heap.size (w.drew.alloc (.cells ROW 26)) (.slice (some ⟨w.heap.size, 0, none⟩) 0 G) 0 []) := ⟨rfl, World.ownsRow_made w.drew ROW G (Nat.le_refl _) hGm hRl⟩
  have HB : Hid (Below w.heap.size w (w.drew.alloc (.cells ROW 26))) := (Below.refl _ w).drew.alloc (Nat.le_refl _) _
  have tm : decide ((0 : Int) < (m : Int)) = true := by simp; omega
  have tn : decide ((m : Int) < 0) = false := by simp
  clear hold hG hz0 hZ hROW hZl hGm
  go_enter Try.func80, Try.ntmps80
  go_wp2_with (at_builtin; refine Lib.wpList_append_run _ rfl _ _ _ _ rfl _ _ rfl rfl _ _ (hrz _) ?_)
  all_goals go_wp2
  all_goals
    go_ret
    exact ⟨_, rfl, HO.out, HB.out⟩

set_option maxRecDepth 100000 in
set_option maxHeartbeats 4000000 in
theorem concat_two (vb : Nat) (a1 a2 : Option Addr) (n1 c1 n2 c2 : Nat) (l1 l2 : List Qu) (w : World) (h1 : HoldsQ w a1 n1 c1 l1) (h2 : HoldsQ w a2 n2 c2 l2) (hv1 : w.cell? ⟨vb, 0, none⟩ = some (.slice a1 n1 c1)) (hv2 : w.cell? ⟨vb, 1, none⟩ = some (.slice a2 n2 c2)) (hp : 1 ≤ n1 + n2) (hm : n1 + n2 ≤ 64) :
    Calls Try.prog 51 #[.slice (some ⟨vb, 0, none⟩) 2 2] w fun e w' => ∃ v, e = .returned v ∧ OwnQ w.heap.size w' v (n1 + n2) (l1 ++ l2) ∧ Below w.heap.size w w' := by
  have H1 := hid h1
  have H2 := hid h2
  have V1 := hid hv1
  have V2 := hid hv2
  clear h1 h2 hv1 hv2
  go_enter Try.func51, Try.ntmps51
  go_wp2_with fail
  go_loopw [3, 11] (fun s i wr => wr = w ∧ ((i = .int .i64 0 ∧ s = .int .i64 0) ∨ (i = .int .i64 1 ∧ s = .int .i64 (n1 : Int)) ∨ (i = .int .i64 2 ∧ s = .int .i64 ((n1 + n2 : Nat) : Int)))) (fun _ i _ => 2 - (intOf i).toNat)
  case atStart => exact ⟨rfl, .inl ⟨rfl, rfl⟩⟩
  case round =>
    obtain ⟨rfl, hc⟩ := hrel
    rcases hc with ⟨rfl, rfl⟩ | ⟨rfl, rfl⟩ | ⟨rfl, rfl⟩
    · have c := V1.out
      have t : decide ((n1 : Int) < 0) = false := by simp
      go_wp2
      go_roundw
      case rel => exact ⟨by first | rfl | trivial, .inr (.inl ⟨rfl, rfl⟩)⟩
      case measure => simp [intOf]
    · have c := V2.out
      have t : decide ((n1 : Int) + (n2 : Int) < 0) = false := by simp; omega
      go_wp2
      go_roundw
      case rel => exact ⟨by first | rfl | trivial, .inr (.inr ⟨rfl, by simp⟩)⟩
      case measure => simp [intOf]
    · rename World => w0
      have GR := hid (grow_nil (n1 + n2) w0 hp hm)
      generalize hN : n1 + n2 = N at *
      go_wp2_with fail
      refine GR.out.mono ?_
      rintro e w1 ⟨v1, rfl, o1, b1⟩
      have O1 := hid o1
      have B1 := hid b1
      clear o1 b1
      go_wp2_with fail
      go_loopw [6, 27] (fun m i wr => Hid (Below w0.heap.size w0 wr) ∧ ((i = .int .i64 0 ∧ Hid (OwnQ w0.heap.size wr m 0 [])) ∨ (i = .int .i64 1 ∧ Hid (OwnQ w0.heap.size wr m n1 l1)) ∨ (i = .int .i64 2 ∧ Hid (OwnQ w0.heap.size wr m N (l1 ++ l2))))) (fun _ i _ => 2 - (intOf i).toNat)
      case atStart => exact ⟨B1, .inl ⟨rfl, O1⟩⟩
      case round =>
        obtain ⟨hB, hc⟩ := hrel
        rcases hc with ⟨rfl, ho⟩ | ⟨rfl, ho⟩ | ⟨rfl, ho⟩
        · have c := keepc hB.out V1.out
          have HH1 := hid (H1.out.below hB.out)
          go_wp2_with (at_builtin; refine cat_ownE 22 26 _ 56 Qu.cs_len Qu.one Try.underlying22 infoQ rfl (by decide) wr rfl (.tmp 31) (.tmp 32) rfl w0.heap.size 0 u6 [] rfl ho.out hB.out.size a1 n1 c1 l1 rfl HH1.out (by omega) (by omega) ?_)
          intro v2 w2 o2 b2 _
          have O2 : Hid (OwnQ w0.heap.size w2 v2 n1 l1) := by simpa [Hid] using o2
          have B2 := hid (hB.out.trans b2)
          clear o2 b2
          go_wp2
          go_roundw
          case rel => exact ⟨B2, .inr (.inl ⟨rfl, O2⟩)⟩
          case measure => simp [intOf]
        · have c := keepc hB.out V2.out
          have HH2 := hid (H2.out.below hB.out)
          go_wp2_with (at_builtin; refine cat_ownE 22 26 _ 56 Qu.cs_len Qu.one Try.underlying22 infoQ rfl (by decide) wr rfl (.tmp 31) (.tmp 32) rfl w0.heap.size n1 u6 l1 rfl ho.out hB.out.size a2 n2 c2 l2 rfl HH2.out (by omega) (by omega) ?_)
          intro v2 w2 o2 b2 _
          have O2 : Hid (OwnQ w0.heap.size w2 v2 N (l1 ++ l2)) := by
            have := o2
            first | exact this | (rw [hN] at this; exact this)
          have B2 := hid (hB.out.trans b2)
          clear o2 b2
          go_wp2
          go_roundw
          case rel => exact ⟨B2, .inr (.inr ⟨rfl, O2⟩)⟩
          case measure => simp [intOf]
        · go_wp2
          go_ret
          have E := ho.out
          first | exact ⟨_, rfl, E, hB.out⟩ | (rw [← hN] at E; exact ⟨_, rfl, E, hB.out⟩)

theorem HoldsE.takeQ {w : World} {b off len cap p : Nat} {l : List Qu} (h : HoldsQ w (some ⟨b, off, none⟩) len cap l) (hp : p ≤ len) : HoldsQ w (some ⟨b, off, none⟩) p cap (l.take p) := by
  obtain ⟨h1, h2, h3, h4, h5⟩ := h
  refine ⟨by rw [List.length_take]; omega, by omega, h3, (fun e => by cases e), fun hq => ?_⟩
  obtain ⟨b', off', e, hlt, hc⟩ := h5 (by omega)
  cases e
  refine ⟨_, _, rfl, hlt, fun j x hx i v hv => hc j x ?_ i v hv⟩
  rw [List.getElem?_take] at hx
  split at hx
  · exact hx
  · cases hx
theorem HoldsE.dropQ {w : World} {b off len cap p : Nat} {l : List Qu} (h : HoldsQ w (some ⟨b, off, none⟩) len cap l) (hp : p ≤ len) : HoldsQ w (some ⟨b, off + p * 7, none⟩) (len - p) (cap - p) (l.drop p) := by
  obtain ⟨h1, h2, h3, h4, h5⟩ := h
  refine ⟨by rw [List.length_drop]; omega, by omega, by omega, (fun e => by cases e), fun hq => ?_⟩
  obtain ⟨b', off', e, hlt, hc⟩ := h5 (by omega)
  cases e
  refine ⟨_, _, rfl, hlt, fun j x hx i v hv => ?_⟩
  rw [List.getElem?_drop] at hx
  have := hc (p + j) x hx i v hv
  rw [show off + p * 7 + j * 7 + i = off + (p + j) * 7 + i by omega]
  exact this

end Go.Proofs.Ytcfaciicljjpoaa
