/-
  Contracts of queue: Leaves, Children, Path, Below.
-/
import Derived.Test.YtglifgnaecbniaaQQ
namespace Go.Proofs.Ytglifgnaecbniaa
open Go.RowKit Go.Deep Go.Maps Go.Shelf
set_option linter.unusedVariables false

def leavesR (l : List Qu) : List Int := if chkE l = 0 then idsAt l (leafs l) else []
theorem Gives.drew {l : List Qu} {gf : Nat} {lbs : Array Value} {ps : List (Fin l.length)} {w : World} (h : Gives l gf lbs ps w) : Gives l gf lbs ps w.drew :=
  ⟨h.1, fun W X N hW hX hN hNW => h.2 W X N ⟨hW.os, hW.tape, hW.output, hW.size, hW.block⟩ hX hN hNW⟩
theorem Tree.drew {w : World} {lb off len cap mb : Nat} {l : List Qu} (h : Tree w lb off len cap mb l) : Tree w.drew lb off len cap mb l := h.below (Below.refl _ _).drew
theorem AnsN.nil (base : Nat) (w : World) : AnsN base w (.slice none 0 0) [] := OwnE.nil _ _ _ _ _
theorem ansN_of {base : Nat} {w : World} {v : Value} {l : List Qu} {ps : List (Fin l.length)} (h : OwnN base w v ps.length (ps.map (fun i => (qa l i.val).id))) : AnsN base w v (idsAt l ps) := by
  unfold AnsN idsAt
  rw [List.length_map]
  exact h

set_option maxRecDepth 100000 in
set_option maxHeartbeats 2000000 in
theorem leaves_any (a : Option Addr) (len cap : Nat) (l : List Qu) (w : World) (h : HoldsQ w a len cap l) (hok : ∀ q ∈ l, q.ok) :
    Calls Try.prog 92 #[.slice a len cap] w fun e w' => ∃ v, e = .returned (.tuple #[v, .int .i64 (chkE l)]) ∧ AnsN w.heap.size w' v (leavesR l) ∧ Below w.heap.size w w' := by
  have HR := hid (read_any a len cap l w h hok)
  clear h hok
  by_cases hE : chkE l = 0
  · have HE := hid hE
    have EL : Hid (leavesR l = idsAt l (leafs l)) := by unfold Hid leavesR; rw [if_pos hE]
    clear hE
    go_enter Try.func92, Try.ntmps92
    go_wp2_with fail
    refine HR.out.mono ?_
    rintro e w1 ⟨h1 | h1, hb1⟩
    · obtain ⟨_, lb, off, mb, rfl, rfl, hT⟩ := h1
      have T1 := hid hT
      have hs1 := hb1.size
      have t0 : (w1.alloc (.cells #[.slice (some ⟨lb, off, none⟩) len cap, .map (some mb)] 76)).cell? ⟨w1.heap.size, 0, none⟩ = some (.slice (some ⟨lb, off, none⟩) len cap) := by simp [go_sem]
      have t1 : (w1.alloc (.cells #[.slice (some ⟨lb, off, none⟩) len cap, .map (some mb)] 76)).cell? ⟨w1.heap.size, 1, none⟩ = some (.map (some mb)) := by simp [go_sem]
      have u0 : ((w1.alloc (.cells #[.slice (some ⟨lb, off, none⟩) len cap, .map (some mb)] 76)).alloc (.cells #[.slice (some ⟨lb, off, none⟩) len cap, .map (some mb)] 76)).cell? ⟨w1.heap.size, 0, none⟩ = some (.slice (some ⟨lb, off, none⟩) len cap) := by simp [go_sem]
      have u1 : ((w1.alloc (.cells #[.slice (some ⟨lb, off, none⟩) len cap, .map (some mb)] 76)).alloc (.cells #[.slice (some ⟨lb, off, none⟩) len cap, .map (some mb)] 76)).cell? ⟨w1.heap.size, 1, none⟩ = some (.map (some mb)) := by simp [go_sem]
      have G1 := hid (gives_leaves (w := w1.alloc (.cells #[.slice (some ⟨lb, off, none⟩) len cap, .map (some mb)] 76)) (T1.out.below (by repeat (first | exact Below.refl _ _ | assumption | refine Below.alloc ?_ (by first | omega | (simp <;> omega)) _ | refine Below.setCell ?_ (by first | omega | (simp <;> omega)) _ | refine Below.drew ?_ | refine below_drewN ?_ _)))).drew
      have G2 := hid (gives_leaves (w := (w1.alloc (.cells #[.slice (some ⟨lb, off, none⟩) len cap, .map (some mb)] 76)).drew) (T1.out.below (by repeat (first | exact Below.refl _ _ | assumption | refine Below.alloc ?_ (by first | omega | (simp <;> omega)) _ | refine Below.setCell ?_ (by first | omega | (simp <;> omega)) _ | refine Below.drew ?_ | refine below_drewN ?_ _))))
      have T2 : Hid (Tree (((w1.alloc (.cells #[.slice (some ⟨lb, off, none⟩) len cap, .map (some mb)] 76)).alloc (.cells #[.slice (some ⟨lb, off, none⟩) len cap, .map (some mb)] 76)).drew) lb off len cap mb l) := T1.out.below (by repeat (first | exact Below.refl _ _ | assumption | refine Below.alloc ?_ (by first | omega | (simp <;> omega)) _ | refine Below.setCell ?_ (by first | omega | (simp <;> omega)) _ | refine Below.drew ?_ | refine below_drewN ?_ _))
      have T3 : Hid (Tree ((((w1.alloc (.cells #[.slice (some ⟨lb, off, none⟩) len cap, .map (some mb)] 76)).drew).alloc (.cells #[.slice (some ⟨lb, off, none⟩) len cap, .map (some mb)] 76))) lb off len cap mb l) := T1.out.below (by repeat (first | exact Below.refl _ _ | assumption | refine Below.alloc ?_ (by first | omega | (simp <;> omega)) _ | refine Below.setCell ?_ (by first | omega | (simp <;> omega)) _ | refine Below.drew ?_ | refine below_drewN ?_ _))
      have LN : Hid ((leafs l).length ≤ 64) := hid (filter_len (by rw [T1.out.hlen]; exact T1.out.hle))
      simp only [World.size_alloc] at G1
      clear hT HR
      go_wp2_with fail
      go_region_with (first
        | (go_at_call 112; refine (leaves_mk lb off len cap mb _).mono ?_; rintro e w2 ⟨rfl, rfl⟩)
        | (go_at_call 72; (first | with_reducible refine (ids_any lb off len cap mb l _ _ (leafs l) _ T2.out G1.out LN.out).mono ?_ | with_reducible refine (ids_any lb off len cap mb l _ _ (leafs l) _ T3.out G2.out LN.out).mono ?_); rintro e w3 ⟨v3, rfl, O3, hb3⟩; have HO3 := hid O3; have HB3 := hid hb3; clear O3 hb3))
      all_goals go_wp2
      all_goals
        rw [HE.out, EL.out]
        go_ret2
        have hb3 : Below w1.heap.size w1 w3 := Below.trans ((Below.refl _ w1).alloc (Nat.le_refl _) (.cells #[.slice (some ⟨lb, off, none⟩) len cap, .map (some mb)] 76)) (Below.mono (Below.trans ((Below.refl _ _).alloc (Nat.le_refl _) (.cells #[.slice (some ⟨lb, off, none⟩) len cap, .map (some mb)] 76)) (Below.mono ⟨HB3.out.os, HB3.out.tape, HB3.out.output, HB3.out.size, HB3.out.block⟩ (by simp))) (by simp))
        exact ⟨_, rfl, ansN_of (HO3.out.weaken (by simp; omega)), hb1.trans (hb3.mono hs1)⟩
    · exact absurd HE.out h1.1
  · have HE := hid hE
    have t : (chkE l != 0) = true := by simpa using hE
    have EL : Hid (leavesR l = []) := by unfold Hid leavesR; rw [if_neg hE]
    clear hE
    generalize chkE l = E at *
    go_enter Try.func92, Try.ntmps92
    go_wp2_with fail
    refine HR.out.mono ?_
    rintro e w1 ⟨h1 | h1, hb1⟩
    · exact absurd h1.1 HE.out
    · obtain ⟨_, rfl⟩ := h1
      have hs1 := hb1.size
      go_wp2
      rw [EL.out]
      go_ret2
      exact ⟨_, rfl, AnsN.nil _ _, (by repeat (first | exact Below.refl _ _ | assumption | refine Below.alloc ?_ (by first | omega | (simp <;> omega)) _ | refine Below.setCell ?_ (by first | omega | (simp <;> omega)) _ | refine Below.drew ?_ | refine below_drewN ?_ _))⟩

/-- The error of a list and a queue. -/
def thereE (l : List Qu) (id : Int) : Int := if chkE l ≠ 0 then chkE l else if hasQ l id = false then 8 else 0
theorem pthF_len (l : List Qu) (i : Nat) (h : i < l.length) : (pthF l i h).length ≤ i + 1 := by
  have := congrArg List.length (pthF_map i h)
  rw [List.length_map] at this
  rw [this]
  exact pth_len i

/-- What Children answers. -/
def childrenR (l : List Qu) (id : Int) : List Int := if thereE l id = 0 then idsAt l (kids l id) else []

set_option maxRecDepth 100000 in
set_option maxHeartbeats 2000000 in
theorem along_children (a : Option Addr) (len cap : Nat) (l : List Qu) (id : Int) (w : World) (h : HoldsQ w a len cap l) (hok : ∀ q ∈ l, q.ok) (hid' : I64 id) :
    Calls Try.prog 39 #[.slice a len cap, .int .i64 id, .func (.func 122) #[] #[]] w fun e w' => ∃ v, e = .returned (.tuple #[v, .int .i64 (thereE l id)]) ∧ AnsN w.heap.size w' v (childrenR l id) ∧ Below w.heap.size w w' := by
  have HR := hid (read_any a len cap l w h hok)
  have II := hid hid'
  clear h hok hid'
  by_cases hE : chkE l = 0
  · have HE := hid hE
    cases hX : hasQ l id
    · have EE : Hid (thereE l id = 8) := by unfold Hid thereE; rw [if_neg (by rw [hE]; decide), if_pos hX]
      have EL : Hid (childrenR l id = []) := by unfold Hid childrenR; rw [if_neg (by rw [EE.out]; decide)]
      have HX := hid hX
      clear hE hX
      go_enter Try.func39, Try.ntmps39
      go_wp2_with fail
      refine HR.out.mono ?_
      rintro e w1 ⟨h1 | h1, hb1⟩
      · obtain ⟨_, lb, off, mb, rfl, rfl, hT⟩ := h1
        have T1 := hid hT
        have hs1 := hb1.size
        clear hT HR
        go_wp2_with fail
        refine (has_any lb off len cap mb l id _ (T1.out.below (by repeat (first | exact Below.refl _ _ | assumption | refine Below.alloc ?_ (by first | omega | (simp <;> omega)) _ | refine Below.setCell ?_ (by first | omega | (simp <;> omega)) _ | refine Below.drew ?_ | refine below_drewN ?_ _))) II.out).mono ?_
        rintro e w2 ⟨rfl, hb2⟩
        rw [HX.out]
        have hB2 : Below w.heap.size w w2 := (hb1.alloc hb1.size (.cells #[.slice (some ⟨lb, off, none⟩) len cap, .map (some mb)] 76)).trans (hb2.mono (by simp; omega))
        clear hb2
        go_wp2
        rw [EE.out, EL.out]
        go_ret2
        exact ⟨_, rfl, AnsN.nil _ _, hB2⟩
      · exact absurd HE.out h1.1
    · have EE : Hid (thereE l id = 0) := by unfold Hid thereE; rw [if_neg (by rw [hE]; decide), if_neg (by rw [hX]; decide)]
      have HI : Hid (pl l id < l.length) := hid (of_decide_eq_true hX)
      have EL : Hid (childrenR l id = idsAt l (kids l id)) := by unfold Hid childrenR; rw [if_pos EE.out]; skip
      have HX := hid hX
      clear hE hX
      go_enter Try.func39, Try.ntmps39
      go_wp2_with fail
      refine HR.out.mono ?_
      rintro e w1 ⟨h1 | h1, hb1⟩
      · obtain ⟨_, lb, off, mb, rfl, rfl, hT⟩ := h1
        have T0 := hid hT
        have hs1 := hb1.size
        clear hT HR
        go_wp2_with fail
        refine (has_any lb off len cap mb l id _ (T0.out.below (by repeat (first | exact Below.refl _ _ | assumption | refine Below.alloc ?_ (by first | omega | (simp <;> omega)) _ | refine Below.setCell ?_ (by first | omega | (simp <;> omega)) _ | refine Below.drew ?_ | refine below_drewN ?_ _))) II.out).mono ?_
        rintro e w2 ⟨rfl, hb2⟩
        rw [HX.out]
        have t0 := keepc hb2 (a := ⟨w1.heap.size, 0, none⟩) (v := .slice (some ⟨lb, off, none⟩) len cap) (by simp [go_sem])
        have t1 := keepc hb2 (a := ⟨w1.heap.size, 1, none⟩) (v := .map (some mb)) (by simp [go_sem])
        have hB2 : Below w.heap.size w w2 := (hb1.alloc hb1.size (.cells #[.slice (some ⟨lb, off, none⟩) len cap, .map (some mb)] 76)).trans (hb2.mono (by simp; omega))
        have T1 : Hid (Tree w2 lb off len cap mb l) := T0.out.below (Below.trans ((Below.refl _ w1).alloc (Nat.le_refl _) (.cells #[.slice (some ⟨lb, off, none⟩) len cap, .map (some mb)] 76)) (hb2.mono (by simp)))
        have ltt := cell_lt t0
        simp only at ltt
        have u0 : ((w2.alloc (.cells #[.slice (some ⟨lb, off, none⟩) len cap, .map (some mb)] 76)).alloc (.cells #[.int .i64 id] 3)).cell? ⟨w1.heap.size, 0, none⟩ = some (.slice (some ⟨lb, off, none⟩) len cap) := by simp [go_sem, t0, ltt]
        have u1 : ((w2.alloc (.cells #[.slice (some ⟨lb, off, none⟩) len cap, .map (some mb)] 76)).alloc (.cells #[.int .i64 id] 3)).cell? ⟨w1.heap.size, 1, none⟩ = some (.map (some mb)) := by simp [go_sem, t1, ltt]
        have hs2 := hB2.size
        have G1 := hid ((gives_children (id := id) (w := w2) (T1.out.below (by repeat (first | exact Below.refl _ _ | assumption | refine Below.alloc ?_ (by first | omega | (simp <;> omega)) _ | refine Below.setCell ?_ (by first | omega | (simp <;> omega)) _ | refine Below.drew ?_ | refine below_drewN ?_ _))))).drew
        have G2 := hid ((gives_children (id := id) (w := w2.drew) (T1.out.below (by repeat (first | exact Below.refl _ _ | assumption | refine Below.alloc ?_ (by first | omega | (simp <;> omega)) _ | refine Below.setCell ?_ (by first | omega | (simp <;> omega)) _ | refine Below.drew ?_ | refine below_drewN ?_ _)))))
        have T2 : Hid (Tree (((w2.alloc (.cells #[.slice (some ⟨lb, off, none⟩) len cap, .map (some mb)] 76)).alloc (.cells #[.int .i64 id] 3)).drew) lb off len cap mb l) := T1.out.below (by repeat (first | exact Below.refl _ _ | assumption | refine Below.alloc ?_ (by first | omega | (simp <;> omega)) _ | refine Below.setCell ?_ (by first | omega | (simp <;> omega)) _ | refine Below.drew ?_ | refine below_drewN ?_ _))
        have T3 : Hid (Tree (((w2.drew).alloc (.cells #[.slice (some ⟨lb, off, none⟩) len cap, .map (some mb)] 76)).alloc (.cells #[.int .i64 id] 3)) lb off len cap mb l) := T1.out.below (by repeat (first | exact Below.refl _ _ | assumption | refine Below.alloc ?_ (by first | omega | (simp <;> omega)) _ | refine Below.setCell ?_ (by first | omega | (simp <;> omega)) _ | refine Below.drew ?_ | refine below_drewN ?_ _))
        have LN' : Hid ((kids l id).length ≤ 64) := hid (filter_len (by rw [T1.out.hlen]; exact T1.out.hle))
        clear hb2
        go_wp2_with fail
        go_region_with (first
          | (go_at_call 122; refine (children_mk lb off len cap mb id _).mono ?_; rintro e w3 ⟨rfl, rfl⟩)
          | (go_at_call 72; (first | with_reducible refine (ids_any lb off len cap mb l _ _ (kids l id) _ T2.out G1.out LN'.out).mono ?_ | with_reducible refine (ids_any lb off len cap mb l _ _ (kids l id) _ T3.out G2.out LN'.out).mono ?_); rintro e w3 ⟨v3, rfl, O3, hb3⟩; have HO3 := hid O3; have HB3 := hid hb3; clear O3 hb3))
        all_goals go_wp2
        all_goals
          rw [EE.out, EL.out]
          go_ret2
          have hb3 : Below w2.heap.size w2 w3 := Below.trans ((Below.refl _ w2).alloc (Nat.le_refl _) (.cells #[.slice (some ⟨lb, off, none⟩) len cap, .map (some mb)] 76)) (Below.mono (Below.trans ((Below.refl _ _).alloc (Nat.le_refl _) (.cells #[.int .i64 id] 3)) (Below.mono ⟨HB3.out.os, HB3.out.tape, HB3.out.output, HB3.out.size, HB3.out.block⟩ (by simp))) (by simp))
          exact ⟨_, rfl, ansN_of (HO3.out.weaken (by simp; omega)), hB2.trans (hb3.mono hs2)⟩
      · exact absurd HE.out h1.1
  · have EE : Hid (thereE l id = chkE l) := by unfold Hid thereE; rw [if_pos hE]
    have EL : Hid (childrenR l id = []) := by unfold Hid childrenR; rw [if_neg (by rw [EE.out]; exact hE)]
    have HE := hid hE
    have t : (chkE l != 0) = true := by simpa using hE
    clear hE
    generalize chkE l = E at *
    go_enter Try.func39, Try.ntmps39
    go_wp2_with fail
    refine HR.out.mono ?_
    rintro e w1 ⟨h1 | h1, hb1⟩
    · exact absurd h1.1 HE.out
    · obtain ⟨_, rfl⟩ := h1
      have hs1 := hb1.size
      go_wp2
      rw [EE.out, EL.out]
      go_ret2
      exact ⟨_, rfl, AnsN.nil _ _, (by repeat (first | exact Below.refl _ _ | assumption | refine Below.alloc ?_ (by first | omega | (simp <;> omega)) _ | refine Below.setCell ?_ (by first | omega | (simp <;> omega)) _ | refine Below.drew ?_ | refine below_drewN ?_ _))⟩

/-- What Path answers. -/
def upR (l : List Qu) (id : Int) : List Int := if thereE l id = 0 then (pth l (pl l id)).map (fun i => (qa l i).id) else []

set_option maxRecDepth 100000 in
set_option maxHeartbeats 2000000 in
theorem along_up (a : Option Addr) (len cap : Nat) (l : List Qu) (id : Int) (w : World) (h : HoldsQ w a len cap l) (hok : ∀ q ∈ l, q.ok) (hid' : I64 id) :
    Calls Try.prog 39 #[.slice a len cap, .int .i64 id, .func (.func 40) #[] #[]] w fun e w' => ∃ v, e = .returned (.tuple #[v, .int .i64 (thereE l id)]) ∧ AnsN w.heap.size w' v (upR l id) ∧ Below w.heap.size w w' := by
  have HR := hid (read_any a len cap l w h hok)
  have II := hid hid'
  clear h hok hid'
  by_cases hE : chkE l = 0
  · have HE := hid hE
    cases hX : hasQ l id
    · have EE : Hid (thereE l id = 8) := by unfold Hid thereE; rw [if_neg (by rw [hE]; decide), if_pos hX]
      have EL : Hid (upR l id = []) := by unfold Hid upR; rw [if_neg (by rw [EE.out]; decide)]
      have HX := hid hX
      clear hE hX
      go_enter Try.func39, Try.ntmps39
      go_wp2_with fail
      refine HR.out.mono ?_
      rintro e w1 ⟨h1 | h1, hb1⟩
      · obtain ⟨_, lb, off, mb, rfl, rfl, hT⟩ := h1
        have T1 := hid hT
        have hs1 := hb1.size
        clear hT HR
        go_wp2_with fail
        refine (has_any lb off len cap mb l id _ (T1.out.below (by repeat (first | exact Below.refl _ _ | assumption | refine Below.alloc ?_ (by first | omega | (simp <;> omega)) _ | refine Below.setCell ?_ (by first | omega | (simp <;> omega)) _ | refine Below.drew ?_ | refine below_drewN ?_ _))) II.out).mono ?_
        rintro e w2 ⟨rfl, hb2⟩
        rw [HX.out]
        have hB2 : Below w.heap.size w w2 := (hb1.alloc hb1.size (.cells #[.slice (some ⟨lb, off, none⟩) len cap, .map (some mb)] 76)).trans (hb2.mono (by simp; omega))
        clear hb2
        go_wp2
        rw [EE.out, EL.out]
        go_ret2
        exact ⟨_, rfl, AnsN.nil _ _, hB2⟩
      · exact absurd HE.out h1.1
    · have EE : Hid (thereE l id = 0) := by unfold Hid thereE; rw [if_neg (by rw [hE]; decide), if_neg (by rw [hX]; decide)]
      have HI : Hid (pl l id < l.length) := hid (of_decide_eq_true hX)
      have EL : Hid (upR l id = idsAt l (pthF l (pl l id) HI.out)) := by unfold Hid upR; rw [if_pos EE.out]; unfold idsAt; rw [← pthF_map (pl l id) HI.out, List.map_map]; rfl
      have HX := hid hX
      clear hE hX
      go_enter Try.func39, Try.ntmps39
      go_wp2_with fail
      refine HR.out.mono ?_
      rintro e w1 ⟨h1 | h1, hb1⟩
      · obtain ⟨_, lb, off, mb, rfl, rfl, hT⟩ := h1
        have T0 := hid hT
        have hs1 := hb1.size
        clear hT HR
        go_wp2_with fail
        refine (has_any lb off len cap mb l id _ (T0.out.below (by repeat (first | exact Below.refl _ _ | assumption | refine Below.alloc ?_ (by first | omega | (simp <;> omega)) _ | refine Below.setCell ?_ (by first | omega | (simp <;> omega)) _ | refine Below.drew ?_ | refine below_drewN ?_ _))) II.out).mono ?_
        rintro e w2 ⟨rfl, hb2⟩
        rw [HX.out]
        have t0 := keepc hb2 (a := ⟨w1.heap.size, 0, none⟩) (v := .slice (some ⟨lb, off, none⟩) len cap) (by simp [go_sem])
        have t1 := keepc hb2 (a := ⟨w1.heap.size, 1, none⟩) (v := .map (some mb)) (by simp [go_sem])
        have hB2 : Below w.heap.size w w2 := (hb1.alloc hb1.size (.cells #[.slice (some ⟨lb, off, none⟩) len cap, .map (some mb)] 76)).trans (hb2.mono (by simp; omega))
        have T1 : Hid (Tree w2 lb off len cap mb l) := T0.out.below (Below.trans ((Below.refl _ w1).alloc (Nat.le_refl _) (.cells #[.slice (some ⟨lb, off, none⟩) len cap, .map (some mb)] 76)) (hb2.mono (by simp)))
        have ltt := cell_lt t0
        simp only at ltt
        have u0 : ((w2.alloc (.cells #[.slice (some ⟨lb, off, none⟩) len cap, .map (some mb)] 76)).alloc (.cells #[.int .i64 id] 3)).cell? ⟨w1.heap.size, 0, none⟩ = some (.slice (some ⟨lb, off, none⟩) len cap) := by simp [go_sem, t0, ltt]
        have u1 : ((w2.alloc (.cells #[.slice (some ⟨lb, off, none⟩) len cap, .map (some mb)] 76)).alloc (.cells #[.int .i64 id] 3)).cell? ⟨w1.heap.size, 1, none⟩ = some (.map (some mb)) := by simp [go_sem, t1, ltt]
        have hs2 := hB2.size
        have G1 := hid ((gives_up (w := w2) (T1.out.below (by repeat (first | exact Below.refl _ _ | assumption | refine Below.alloc ?_ (by first | omega | (simp <;> omega)) _ | refine Below.setCell ?_ (by first | omega | (simp <;> omega)) _ | refine Below.drew ?_ | refine below_drewN ?_ _))) HI.out)).drew
        have G2 := hid ((gives_up (w := w2.drew) (T1.out.below (by repeat (first | exact Below.refl _ _ | assumption | refine Below.alloc ?_ (by first | omega | (simp <;> omega)) _ | refine Below.setCell ?_ (by first | omega | (simp <;> omega)) _ | refine Below.drew ?_ | refine below_drewN ?_ _))) HI.out))
        have T2 : Hid (Tree (((w2.alloc (.cells #[.slice (some ⟨lb, off, none⟩) len cap, .map (some mb)] 76)).alloc (.cells #[.int .i64 id] 3)).drew) lb off len cap mb l) := T1.out.below (by repeat (first | exact Below.refl _ _ | assumption | refine Below.alloc ?_ (by first | omega | (simp <;> omega)) _ | refine Below.setCell ?_ (by first | omega | (simp <;> omega)) _ | refine Below.drew ?_ | refine below_drewN ?_ _))
        have T3 : Hid (Tree (((w2.drew).alloc (.cells #[.slice (some ⟨lb, off, none⟩) len cap, .map (some mb)] 76)).alloc (.cells #[.int .i64 id] 3)) lb off len cap mb l) := T1.out.below (by repeat (first | exact Below.refl _ _ | assumption | refine Below.alloc ?_ (by first | omega | (simp <;> omega)) _ | refine Below.setCell ?_ (by first | omega | (simp <;> omega)) _ | refine Below.drew ?_ | refine below_drewN ?_ _))
        have LN' : Hid ((pthF l (pl l id) HI.out).length ≤ 64) := hid (by have h1 := pthF_len l (pl l id) HI.out; have h2 := HI.out; have h3 := T1.out.hlen; have h4 := T1.out.hle; omega)
        clear hb2
        go_wp2_with fail
        go_region_with (first
          | (go_at_call 40; refine (up_mk lb off len cap mb id _).mono ?_; rintro e w3 ⟨rfl, rfl⟩)
          | (go_at_call 72; (first | with_reducible refine (ids_any lb off len cap mb l _ _ (pthF l (pl l id) HI.out) _ T2.out G1.out LN'.out).mono ?_ | with_reducible refine (ids_any lb off len cap mb l _ _ (pthF l (pl l id) HI.out) _ T3.out G2.out LN'.out).mono ?_); rintro e w3 ⟨v3, rfl, O3, hb3⟩; have HO3 := hid O3; have HB3 := hid hb3; clear O3 hb3))
        all_goals go_wp2
        all_goals
          rw [EE.out, EL.out]
          go_ret2
          have hb3 : Below w2.heap.size w2 w3 := Below.trans ((Below.refl _ w2).alloc (Nat.le_refl _) (.cells #[.slice (some ⟨lb, off, none⟩) len cap, .map (some mb)] 76)) (Below.mono (Below.trans ((Below.refl _ _).alloc (Nat.le_refl _) (.cells #[.int .i64 id] 3)) (Below.mono ⟨HB3.out.os, HB3.out.tape, HB3.out.output, HB3.out.size, HB3.out.block⟩ (by simp))) (by simp))
          exact ⟨_, rfl, ansN_of (HO3.out.weaken (by simp; omega)), hB2.trans (hb3.mono hs2)⟩
      · exact absurd HE.out h1.1
  · have EE : Hid (thereE l id = chkE l) := by unfold Hid thereE; rw [if_pos hE]
    have EL : Hid (upR l id = []) := by unfold Hid upR; rw [if_neg (by rw [EE.out]; exact hE)]
    have HE := hid hE
    have t : (chkE l != 0) = true := by simpa using hE
    clear hE
    generalize chkE l = E at *
    go_enter Try.func39, Try.ntmps39
    go_wp2_with fail
    refine HR.out.mono ?_
    rintro e w1 ⟨h1 | h1, hb1⟩
    · exact absurd h1.1 HE.out
    · obtain ⟨_, rfl⟩ := h1
      have hs1 := hb1.size
      go_wp2
      rw [EE.out, EL.out]
      go_ret2
      exact ⟨_, rfl, AnsN.nil _ _, (by repeat (first | exact Below.refl _ _ | assumption | refine Below.alloc ?_ (by first | omega | (simp <;> omega)) _ | refine Below.setCell ?_ (by first | omega | (simp <;> omega)) _ | refine Below.drew ?_ | refine below_drewN ?_ _))⟩

set_option maxHeartbeats 1000000 in
theorem up_any (a : Option Addr) (len cap : Nat) (l : List Qu) (id : Int) (w : World) (h : HoldsQ w a len cap l) (hok : ∀ q ∈ l, q.ok) (hid' : I64 id) :
    Calls Try.prog 17 #[.slice a len cap, .int .i64 id] w fun e w' => ∃ v, e = .returned (.tuple #[v, .int .i64 (thereE l id)]) ∧ AnsN w.heap.size w' v (upR l id) ∧ Below w.heap.size w w' := by
  have H := hid (along_up a len cap l id w h hok hid')
  clear h hok hid'
  go_enter Try.func17, Try.ntmps17
  go_wp2_with fail
  refine H.out.mono ?_
  rintro e w1 ⟨v1, rfl, O1, hb1⟩
  have HO1 := hid O1
  clear O1
  go_wp2
  go_ret2
  exact ⟨_, rfl, HO1.out, hb1⟩

/-- What Below answers. -/
def downR (l : List Qu) (id : Int) : List Int := if thereE l id = 0 then idsAt l (downs l (pl l id)) else []

set_option maxRecDepth 100000 in
set_option maxHeartbeats 2000000 in
theorem along_down (a : Option Addr) (len cap : Nat) (l : List Qu) (id : Int) (w : World) (h : HoldsQ w a len cap l) (hok : ∀ q ∈ l, q.ok) (hid' : I64 id) :
    Calls Try.prog 39 #[.slice a len cap, .int .i64 id, .func (.func 80) #[] #[]] w fun e w' => ∃ v, e = .returned (.tuple #[v, .int .i64 (thereE l id)]) ∧ AnsN w.heap.size w' v (downR l id) ∧ Below w.heap.size w w' := by
  have HR := hid (read_any a len cap l w h hok)
  have II := hid hid'
  clear h hok hid'
  by_cases hE : chkE l = 0
  · have HE := hid hE
    cases hX : hasQ l id
    · have EE : Hid (thereE l id = 8) := by unfold Hid thereE; rw [if_neg (by rw [hE]; decide), if_pos hX]
      have EL : Hid (downR l id = []) := by unfold Hid downR; rw [if_neg (by rw [EE.out]; decide)]
      have HX := hid hX
      clear hE hX
      go_enter Try.func39, Try.ntmps39
      go_wp2_with fail
      refine HR.out.mono ?_
      rintro e w1 ⟨h1 | h1, hb1⟩
      · obtain ⟨_, lb, off, mb, rfl, rfl, hT⟩ := h1
        have T1 := hid hT
        have hs1 := hb1.size
        clear hT HR
        go_wp2_with fail
        refine (has_any lb off len cap mb l id _ (T1.out.below (by repeat (first | exact Below.refl _ _ | assumption | refine Below.alloc ?_ (by first | omega | (simp <;> omega)) _ | refine Below.setCell ?_ (by first | omega | (simp <;> omega)) _ | refine Below.drew ?_ | refine below_drewN ?_ _))) II.out).mono ?_
        rintro e w2 ⟨rfl, hb2⟩
        rw [HX.out]
        have hB2 : Below w.heap.size w w2 := (hb1.alloc hb1.size (.cells #[.slice (some ⟨lb, off, none⟩) len cap, .map (some mb)] 76)).trans (hb2.mono (by simp; omega))
        clear hb2
        go_wp2
        rw [EE.out, EL.out]
        go_ret2
        exact ⟨_, rfl, AnsN.nil _ _, hB2⟩
      · exact absurd HE.out h1.1
    · have EE : Hid (thereE l id = 0) := by unfold Hid thereE; rw [if_neg (by rw [hE]; decide), if_neg (by rw [hX]; decide)]
      have HI : Hid (pl l id < l.length) := hid (of_decide_eq_true hX)
      have EL : Hid (downR l id = idsAt l (downs l (pl l id))) := by unfold Hid downR; rw [if_pos EE.out]; skip
      have HX := hid hX
      clear hE hX
      go_enter Try.func39, Try.ntmps39
      go_wp2_with fail
      refine HR.out.mono ?_
      rintro e w1 ⟨h1 | h1, hb1⟩
      · obtain ⟨_, lb, off, mb, rfl, rfl, hT⟩ := h1
        have T0 := hid hT
        have hs1 := hb1.size
        clear hT HR
        go_wp2_with fail
        refine (has_any lb off len cap mb l id _ (T0.out.below (by repeat (first | exact Below.refl _ _ | assumption | refine Below.alloc ?_ (by first | omega | (simp <;> omega)) _ | refine Below.setCell ?_ (by first | omega | (simp <;> omega)) _ | refine Below.drew ?_ | refine below_drewN ?_ _))) II.out).mono ?_
        rintro e w2 ⟨rfl, hb2⟩
        rw [HX.out]
        have t0 := keepc hb2 (a := ⟨w1.heap.size, 0, none⟩) (v := .slice (some ⟨lb, off, none⟩) len cap) (by simp [go_sem])
        have t1 := keepc hb2 (a := ⟨w1.heap.size, 1, none⟩) (v := .map (some mb)) (by simp [go_sem])
        have hB2 : Below w.heap.size w w2 := (hb1.alloc hb1.size (.cells #[.slice (some ⟨lb, off, none⟩) len cap, .map (some mb)] 76)).trans (hb2.mono (by simp; omega))
        have T1 : Hid (Tree w2 lb off len cap mb l) := T0.out.below (Below.trans ((Below.refl _ w1).alloc (Nat.le_refl _) (.cells #[.slice (some ⟨lb, off, none⟩) len cap, .map (some mb)] 76)) (hb2.mono (by simp)))
        have ltt := cell_lt t0
        simp only at ltt
        have u0 : ((w2.alloc (.cells #[.slice (some ⟨lb, off, none⟩) len cap, .map (some mb)] 76)).alloc (.cells #[.int .i64 id] 3)).cell? ⟨w1.heap.size, 0, none⟩ = some (.slice (some ⟨lb, off, none⟩) len cap) := by simp [go_sem, t0, ltt]
        have u1 : ((w2.alloc (.cells #[.slice (some ⟨lb, off, none⟩) len cap, .map (some mb)] 76)).alloc (.cells #[.int .i64 id] 3)).cell? ⟨w1.heap.size, 1, none⟩ = some (.map (some mb)) := by simp [go_sem, t1, ltt]
        have hs2 := hB2.size
        have G1 := hid ((gives_down (w := w2) (T1.out.below (by repeat (first | exact Below.refl _ _ | assumption | refine Below.alloc ?_ (by first | omega | (simp <;> omega)) _ | refine Below.setCell ?_ (by first | omega | (simp <;> omega)) _ | refine Below.drew ?_ | refine below_drewN ?_ _))) II.out HI.out)).drew
        have G2 := hid ((gives_down (w := w2.drew) (T1.out.below (by repeat (first | exact Below.refl _ _ | assumption | refine Below.alloc ?_ (by first | omega | (simp <;> omega)) _ | refine Below.setCell ?_ (by first | omega | (simp <;> omega)) _ | refine Below.drew ?_ | refine below_drewN ?_ _))) II.out HI.out))
        have T2 : Hid (Tree (((w2.alloc (.cells #[.slice (some ⟨lb, off, none⟩) len cap, .map (some mb)] 76)).alloc (.cells #[.int .i64 id] 3)).drew) lb off len cap mb l) := T1.out.below (by repeat (first | exact Below.refl _ _ | assumption | refine Below.alloc ?_ (by first | omega | (simp <;> omega)) _ | refine Below.setCell ?_ (by first | omega | (simp <;> omega)) _ | refine Below.drew ?_ | refine below_drewN ?_ _))
        have T3 : Hid (Tree (((w2.drew).alloc (.cells #[.slice (some ⟨lb, off, none⟩) len cap, .map (some mb)] 76)).alloc (.cells #[.int .i64 id] 3)) lb off len cap mb l) := T1.out.below (by repeat (first | exact Below.refl _ _ | assumption | refine Below.alloc ?_ (by first | omega | (simp <;> omega)) _ | refine Below.setCell ?_ (by first | omega | (simp <;> omega)) _ | refine Below.drew ?_ | refine below_drewN ?_ _))
        have LN' : Hid ((downs l (pl l id)).length ≤ 64) := hid (filter_len (by rw [T1.out.hlen]; exact T1.out.hle))
        clear hb2
        go_wp2_with fail
        go_region_with (first
          | (go_at_call 80; refine (down_mk lb off len cap mb id _).mono ?_; rintro e w3 ⟨rfl, rfl⟩)
          | (go_at_call 72; (first | with_reducible refine (ids_any lb off len cap mb l _ _ (downs l (pl l id)) _ T2.out G1.out LN'.out).mono ?_ | with_reducible refine (ids_any lb off len cap mb l _ _ (downs l (pl l id)) _ T3.out G2.out LN'.out).mono ?_); rintro e w3 ⟨v3, rfl, O3, hb3⟩; have HO3 := hid O3; have HB3 := hid hb3; clear O3 hb3))
        all_goals go_wp2
        all_goals
          rw [EE.out, EL.out]
          go_ret2
          have hb3 : Below w2.heap.size w2 w3 := Below.trans ((Below.refl _ w2).alloc (Nat.le_refl _) (.cells #[.slice (some ⟨lb, off, none⟩) len cap, .map (some mb)] 76)) (Below.mono (Below.trans ((Below.refl _ _).alloc (Nat.le_refl _) (.cells #[.int .i64 id] 3)) (Below.mono ⟨HB3.out.os, HB3.out.tape, HB3.out.output, HB3.out.size, HB3.out.block⟩ (by simp))) (by simp))
          exact ⟨_, rfl, ansN_of (HO3.out.weaken (by simp; omega)), hB2.trans (hb3.mono hs2)⟩
      · exact absurd HE.out h1.1
  · have EE : Hid (thereE l id = chkE l) := by unfold Hid thereE; rw [if_pos hE]
    have EL : Hid (downR l id = []) := by unfold Hid downR; rw [if_neg (by rw [EE.out]; exact hE)]
    have HE := hid hE
    have t : (chkE l != 0) = true := by simpa using hE
    clear hE
    generalize chkE l = E at *
    go_enter Try.func39, Try.ntmps39
    go_wp2_with fail
    refine HR.out.mono ?_
    rintro e w1 ⟨h1 | h1, hb1⟩
    · exact absurd h1.1 HE.out
    · obtain ⟨_, rfl⟩ := h1
      have hs1 := hb1.size
      go_wp2
      rw [EE.out, EL.out]
      go_ret2
      exact ⟨_, rfl, AnsN.nil _ _, (by repeat (first | exact Below.refl _ _ | assumption | refine Below.alloc ?_ (by first | omega | (simp <;> omega)) _ | refine Below.setCell ?_ (by first | omega | (simp <;> omega)) _ | refine Below.drew ?_ | refine below_drewN ?_ _))⟩

set_option maxHeartbeats 1000000 in
theorem down_any (a : Option Addr) (len cap : Nat) (l : List Qu) (id : Int) (w : World) (h : HoldsQ w a len cap l) (hok : ∀ q ∈ l, q.ok) (hid' : I64 id) :
    Calls Try.prog 44 #[.slice a len cap, .int .i64 id] w fun e w' => ∃ v, e = .returned (.tuple #[v, .int .i64 (thereE l id)]) ∧ AnsN w.heap.size w' v (downR l id) ∧ Below w.heap.size w w' := by
  have H := hid (along_down a len cap l id w h hok hid')
  clear h hok hid'
  go_enter Try.func44, Try.ntmps44
  go_wp2_with fail
  refine H.out.mono ?_
  rintro e w1 ⟨v1, rfl, O1, hb1⟩
  have HO1 := hid O1
  clear O1
  go_wp2
  go_ret2
  exact ⟨_, rfl, HO1.out, hb1⟩


end Go.Proofs.Ytglifgnaecbniaa
