/-
  The document's answers of place: Node, cores.
-/
import Derived.Test.YtikalkigmnipiaaPK
namespace Go.Proofs.Ytikalkigmnipiaa
open Go.RowKit Go.Deep Go.Maps Go.Shelf
set_option linter.unusedVariables false
set_option linter.unusedSimpArgs false

theorem da_out {ns : List Nd} {k : Nat} (h : ns.length ≤ k) : da ns k = nd0 := by unfold da; rw [List.getElem?_eq_none h]; rfl

theorem put5 (W : World) (b : Nat) {v0 v1 v2 v3 v4 : Value} (z0 : W.cell? ⟨b, 0, none⟩ = some v0) (z1 : W.cell? ⟨b, 1, none⟩ = some v1) (z2 : W.cell? ⟨b, 2, none⟩ = some v2) (z3 : W.cell? ⟨b, 3, none⟩ = some v3) (z4 : W.cell? ⟨b, 4, none⟩ = some v4) (x1 x2 x3 x4 x5 : Int) (o : Obj) :
    ((((((W.setCell ⟨b, 0, none⟩ (.int .i64 x1)).setCell ⟨b, 1, none⟩ (.int .i64 x2)).setCell ⟨b, 2, none⟩ (.int .i64 x3)).setCell ⟨b, 3, none⟩ (.int .i64 x4)).setCell ⟨b, 4, none⟩ (.int .i64 x5)).alloc o).cell? ⟨b, 0, none⟩ = some (.int .i64 x1) ∧ ((((((W.setCell ⟨b, 0, none⟩ (.int .i64 x1)).setCell ⟨b, 1, none⟩ (.int .i64 x2)).setCell ⟨b, 2, none⟩ (.int .i64 x3)).setCell ⟨b, 3, none⟩ (.int .i64 x4)).setCell ⟨b, 4, none⟩ (.int .i64 x5)).alloc o).cell? ⟨b, 1, none⟩ = some (.int .i64 x2) ∧ ((((((W.setCell ⟨b, 0, none⟩ (.int .i64 x1)).setCell ⟨b, 1, none⟩ (.int .i64 x2)).setCell ⟨b, 2, none⟩ (.int .i64 x3)).setCell ⟨b, 3, none⟩ (.int .i64 x4)).setCell ⟨b, 4, none⟩ (.int .i64 x5)).alloc o).cell? ⟨b, 2, none⟩ = some (.int .i64 x3) ∧ ((((((W.setCell ⟨b, 0, none⟩ (.int .i64 x1)).setCell ⟨b, 1, none⟩ (.int .i64 x2)).setCell ⟨b, 2, none⟩ (.int .i64 x3)).setCell ⟨b, 3, none⟩ (.int .i64 x4)).setCell ⟨b, 4, none⟩ (.int .i64 x5)).alloc o).cell? ⟨b, 3, none⟩ = some (.int .i64 x4) ∧ ((((((W.setCell ⟨b, 0, none⟩ (.int .i64 x1)).setCell ⟨b, 1, none⟩ (.int .i64 x2)).setCell ⟨b, 2, none⟩ (.int .i64 x3)).setCell ⟨b, 3, none⟩ (.int .i64 x4)).setCell ⟨b, 4, none⟩ (.int .i64 x5)).alloc o).cell? ⟨b, 4, none⟩ = some (.int .i64 x5) := by
  have k := (Below.refl _ (((((W.setCell ⟨b, 0, none⟩ (.int .i64 x1)).setCell ⟨b, 1, none⟩ (.int .i64 x2)).setCell ⟨b, 2, none⟩ (.int .i64 x3)).setCell ⟨b, 3, none⟩ (.int .i64 x4)).setCell ⟨b, 4, none⟩ (.int .i64 x5))).alloc (Nat.le_refl _) o
  exact ⟨keepc k (by simp [go_sem, z0, z1, z2, z3, z4]), keepc k (by simp [go_sem, z0, z1, z2, z3, z4]), keepc k (by simp [go_sem, z0, z1, z2, z3, z4]), keepc k (by simp [go_sem, z0, z1, z2, z3, z4]), keepc k (by simp [go_sem, z0, z1, z2, z3, z4])⟩

set_option maxRecDepth 100000 in
set_option maxHeartbeats 4000000 in
theorem rnode_any (a : Option Addr) (len cap : Nat) (ns : List Nd) (id : Int) (w : World) (h : HoldsD w a len cap ns) :
    Calls Try.prog 44 #[.slice a len cap, .int .i64 id] w fun e w' => e = .returned (.tuple #[.agg #[.int .i64 (da ns (ndI ns id)).id, .int .i64 (da ns (ndI ns id)).co, .int .i64 (da ns (ndI ns id)).me, .int .i64 (da ns (ndI ns id)).inc, .int .i64 (da ns (ndI ns id)).bt], .bool (decide (ndI ns id < ns.length))]) ∧ Below w.heap.size w w' := by
  have HH := hid h
  have HL := hid h.1
  have hcap := h.2.1
  have hcm := h.2.2.1
  have B0 : Hid (Below w.heap.size w (w.alloc (.cells #[.int .i64 0, .int .i64 0, .int .i64 0, .int .i64 0, .int .i64 0] 41))) := (Below.refl _ w).alloc (Nat.le_refl _) _
  have Z : Hid (∀ i, i < 5 → (w.alloc (.cells #[.int .i64 0, .int .i64 0, .int .i64 0, .int .i64 0, .int .i64 0] 41)).cell? ⟨w.heap.size, i, none⟩ = some (.int .i64 0) ∧ (w.alloc (.cells #[.int .i64 0, .int .i64 0, .int .i64 0, .int .i64 0, .int .i64 0] 41)).frozen? ⟨w.heap.size, i, none⟩ = false) := by
    intro i hi
    match i, hi with
    | 0, _ => exact ⟨by simp [go_sem], by simp [go_sem]⟩
    | 1, _ => exact ⟨by simp [go_sem], by simp [go_sem]⟩
    | 2, _ => exact ⟨by simp [go_sem], by simp [go_sem]⟩
    | 3, _ => exact ⟨by simp [go_sem], by simp [go_sem]⟩
    | 4, _ => exact ⟨by simp [go_sem], by simp [go_sem]⟩
  clear h
  go_enter Try.func44, Try.ntmps44
  go_wp2_with fail
  generalize (w.alloc (.cells #[.int .i64 0, .int .i64 0, .int .i64 0, .int .i64 0, .int .i64 0] 41)) = w0 at *
  go_loopw [10] (fun i wr => ∃ k : Nat, k ≤ len ∧ i = .int .i64 (k : Int) ∧ Hid (∀ i, i < k → (da ns i).id ≠ id) ∧ Hid (Below w0.heap.size w0 wr)) (fun i _ => len - (intOf i).toNat)
  case atStart => exact ⟨0, by omega, rfl, fun i hi => by omega, Below.refl _ _⟩
  case round =>
    obtain ⟨k, hk, rfl, hno, hB⟩ := hrel
    have KB := hid (B0.out.trans (hB.out.mono B0.out.size))
    have z0 := keepc hB.out (Z.out 0 (by omega)).1
    have z1 := keepc hB.out (Z.out 1 (by omega)).1
    have z2 := keepc hB.out (Z.out 2 (by omega)).1
    have z3 := keepc hB.out (Z.out 3 (by omega)).1
    have z4 := keepc hB.out (Z.out 4 (by omega)).1
    have f0 := keepf hB.out (Z.out 0 (by omega)).1 (Z.out 0 (by omega)).2
    have f1 := keepf hB.out (Z.out 1 (by omega)).1 (Z.out 1 (by omega)).2
    have f2 := keepf hB.out (Z.out 2 (by omega)).1 (Z.out 2 (by omega)).2
    have f3 := keepf hB.out (Z.out 3 (by omega)).1 (Z.out 3 (by omega)).2
    have f4 := keepf hB.out (Z.out 4 (by omega)).1 (Z.out 4 (by omega)).2
    have hlt0 := cell_lt z0
    have ne0 : wr.heap.size ≠ w.heap.size := by have : w.heap.size < wr.heap.size := hlt0; omega
    have ne1 : w.heap.size ≠ wr.heap.size := by have : w.heap.size < wr.heap.size := hlt0; omega
    by_cases hlt : k < len
    · have hk' : k < ns.length := by rw [HL.out]; exact hlt
      obtain ⟨db, dof, rfl, R⟩ := HH.out.rowD (by omega)
      obtain ⟨d1, d2, d3, d4, d5⟩ := R k hlt
      have c1 := keepc KB.out d1
      have c2 := keepc KB.out d2
      have c3 := keepc KB.out d3
      have c4 := keepc KB.out d4
      have c5 := keepc KB.out d5
      have ka : (0 : Int) ≤ (k : Int) := by omega
      have kb : (k : Int) < (len : Int) := by omega
      clear d1 d2 d3 d4 d5 R
      by_cases g : (da ns k).id = id
      · have hI : ndI ns id = k := ndI_eq hk' hno.out g
        have t : ((da ns k).id == id) = true := by simpa using g
        have EY : Hid (decide (ndI ns id < ns.length) = true) := by unfold Hid; rw [hI]; exact decide_eq_true hk'
        have EI := hid hI
        have KA : Hid (∀ o, Below w.heap.size w (wr.alloc o)) := fun o => KB.out.alloc KB.out.size o
        clear hI g
        generalize hnd : da ns k = nd at *
        have HND := hid hnd
        clear hnd
        obtain ⟨x1, x2, x3, x4, x5⟩ := nd
        simp only at *
        obtain ⟨p0, p1, p2, p3, p4⟩ := put5 wr w.heap.size z0 z1 z2 z3 z4 x1 x2 x3 x4 x5 (.cells #[.int .i64 x1, .int .i64 x2, .int .i64 x3, .int .i64 x4, .int .i64 x5] 41)
        have PP := hid (And.intro p0 (And.intro p1 (And.intro p2 (And.intro p3 p4))))
        clear p0 p1 p2 p3 p4
        go_wp2
        rw [EY.out, EI.out, HND.out]
        obtain ⟨p0, p1, p2, p3, p4⟩ := PP.out
        refine bodyPost_ret (v := .tuple #[.agg #[.int .i64 x1, .int .i64 x2, .int .i64 x3, .int .i64 x4, .int .i64 x5], .bool true]) (by simp [results, Try.results44, go_sem, p0, p1, p2, p3, p4]) rfl ⟨rfl, ?_⟩
        refine Below.alloc ?_ (by have : w.heap.size < wr.heap.size := hlt0; simp; omega) _
        exact ((((KB.out.setCell (by simp) _).setCell (by simp) _).setCell (by simp) _).setCell (by simp) _).setCell (by simp) _
      · have t : ((da ns k).id == id) = false := by simpa using g
        have NO : Hid (∀ i, i < k + 1 → (da ns i).id ≠ id) := fun i hi => by
          rcases Nat.lt_or_ge i k with h | h
          · exact hno.out i h
          · rw [show i = k by omega]; exact g
        clear g hno
        generalize hnd : da ns k = nd at *
        clear hnd
        obtain ⟨x1, x2, x3, x4, x5⟩ := nd
        simp only at *
        have BA : Hid (Below w0.heap.size w0 (wr.alloc (.cells #[.int .i64 x1, .int .i64 x2, .int .i64 x3, .int .i64 x4, .int .i64 x5] 41))) := hB.out.alloc hB.out.size _
        go_wp2
        go_roundw
        case rel => exact ⟨k + 1, by omega, by go_num, NO, BA⟩
        case measure => simp [intOf]; omega
    · have hI : ndI ns id = ns.length := ndI_none (fun i hi => hno.out i (by rw [HL.out] at hi; omega))
      have EY : Hid (decide (ndI ns id < ns.length) = false) := by unfold Hid; rw [hI]; exact decide_eq_false (by omega)
      have EN : Hid (da ns (ndI ns id) = nd0) := by unfold Hid; rw [hI]; exact da_out (Nat.le_refl _)
      clear hI
      go_wp2
      rw [EY.out, EN.out]
      refine bodyPost_ret (v := .tuple #[.agg #[.int .i64 0, .int .i64 0, .int .i64 0, .int .i64 0, .int .i64 0], .bool false]) (by simp [results, Try.results44, go_sem, z0, z1, z2, z3, z4]) rfl ⟨rfl, ?_⟩
      exact ((((KB.out.setCell (by simp) _).setCell (by simp) _).setCell (by simp) _).setCell (by simp) _).setCell (by simp) _

theorem coB_no {n : Int} {l : List Int} {k : Nat} (hk : k < l.length) (h : na l k < 0 ∨ n ≤ na l k) : coB n l = false := by
  unfold coB
  rw [List.all_eq_false.2 ⟨na l k, na_mem hk, ?_⟩]
  · rfl
  · simp; omega
theorem coB_yes {n : Int} {l : List Int} (h : ∀ k, k < l.length → 0 ≤ na l k ∧ na l k < n) : coB n l = riseB l := by
  unfold coB
  rw [List.all_eq_true.2, Bool.true_and]
  intro c hc
  obtain ⟨k, hk, rfl⟩ := List.getElem_of_mem hc
  have := h k hk
  unfold na at this
  rw [List.getElem?_eq_getElem hk] at this
  simp at this ⊢
  omega

set_option maxRecDepth 100000 in
set_option maxHeartbeats 4000000 in
theorem rcores_any (a : Option Addr) (len cap : Nat) (l : List Int) (x1 x2 x3 x4 x5 : Int) (w : World) (h : HoldsN w a len cap l) :
    Calls Try.prog 82 #[.slice a len cap, .agg #[.int .i64 x1, .int .i64 x2, .int .i64 x3, .int .i64 x4, .int .i64 x5]] w fun e w' => e = .returned (.bool (coB x2 l)) ∧ Below w.heap.size w w' := by
  have HH := hid h
  have HL := hid h.1
  have hcap := h.2.1
  have hcm := h.2.2.1
  have B0 : Hid (Below w.heap.size w (w.alloc (.cells #[.int .i64 x1, .int .i64 x2, .int .i64 x3, .int .i64 x4, .int .i64 x5] 41))) := (Below.refl _ w).alloc (Nat.le_refl _) _
  have Z1 : Hid ((w.alloc (.cells #[.int .i64 x1, .int .i64 x2, .int .i64 x3, .int .i64 x4, .int .i64 x5] 41)).cell? ⟨w.heap.size, 1, none⟩ = some (.int .i64 x2)) := by unfold Hid; simp [go_sem]
  clear h
  go_enter Try.func82, Try.ntmps82
  go_wp2_with fail
  generalize (w.alloc (.cells #[.int .i64 x1, .int .i64 x2, .int .i64 x3, .int .i64 x4, .int .i64 x5] 41)) = w0 at *
  go_loopw [9] (fun i wr => ∃ k : Nat, k ≤ len ∧ i = .int .i64 (k : Int) ∧ Hid (∀ i, i < k → 0 ≤ na l i ∧ na l i < x2) ∧ w0 = wr) (fun i _ => len - (intOf i).toNat)
  case atStart => exact ⟨0, by omega, rfl, fun i hi => by omega, rfl⟩
  case round =>
    obtain ⟨k, hk, rfl, hgo, rfl⟩ := hrel
    have z1 := Z1.out
    by_cases hlt : k < len
    · have hk' : k < l.length := by rw [HL.out]; exact hlt
      obtain ⟨cb, co, rfl, R⟩ := (HH.out.below B0.out).rowA (by omega)
      have c0 := R k hlt
      have ka : (0 : Int) ≤ (k : Int) := by omega
      have kb : (k : Int) < (len : Int) := by omega
      have NO := hid (fun h => coB_no (n := x2) hk' h)
      have YES : Hid (¬ na l k < 0 → ¬ x2 ≤ na l k → ∀ i, i < k + 1 → 0 ≤ na l i ∧ na l i < x2) := fun h1 h2 i hi => by
        rcases Nat.lt_or_ge i k with h | h
        · exact hgo.out i h
        · rw [show i = k by omega]; omega
      clear R
      generalize na l k = c at *
      by_cases g1 : c < 0
      · have t1 : decide (c < 0) = true := by simpa using g1
        have E := hid (NO.out (.inl g1))
        clear NO YES hgo
        go_wp2
        go_ret
        exact ⟨retb E.out.symm, B0.out⟩
      have t1 : decide (c < 0) = false := by simpa using g1
      by_cases g2 : x2 ≤ c
      · have t2 : decide (x2 ≤ c) = true := by simpa using g2
        have E := hid (NO.out (.inr g2))
        clear NO YES hgo
        go_wp2
        go_ret
        exact ⟨retb E.out.symm, B0.out⟩
      · have t2 : decide (x2 ≤ c) = false := by simpa using g2
        have E := hid (YES.out g1 g2)
        clear NO YES hgo
        go_wp2
        go_roundw
        case rel => exact ⟨k + 1, by omega, by go_num, E, trivial⟩
        case measure => simp [intOf]; omega
    · have E := hid (coB_yes (n := x2) (l := l) (fun i hi => hgo.out i (by rw [HL.out] at hi; omega)))
      have RS := hid (rrises_any a len cap l w0 (HH.out.below B0.out))
      rw [← E.out] at RS
      clear hgo
      go_wp2_with fail
      refine RS.out.mono ?_
      rintro e w2 ⟨rfl, b2⟩
      have B2 := hid (B0.out.trans (b2.mono B0.out.size))
      clear b2
      go_wp2
      go_ret
      exact ⟨rfl, B2.out⟩

end Go.Proofs.Ytikalkigmnipiaa
