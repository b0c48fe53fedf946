/-
  Whose turn it is: one of want; behind it all goes on as if that weren't there.
-/
import Derived.Test.YtdomimpcjkajiaaMD
namespace Go.Proofs.Ytdomimpcjkajiaa
open Go.RowKit Go.Deep Go.Maps Go.Shelf
set_option linter.unusedVariables false
set_option linter.unusedSimpArgs false

theorem rise_pair : ∀ {l : List Int}, riseB l = true ↔ l.Pairwise (· < ·) := by
  intro l
  induction l with
  | nil => simp [riseB]
  | cons x r ih =>
    cases r with
    | nil => simp [riseB]
    | cons y r =>
      unfold riseB
      rw [Bool.and_eq_true, decide_eq_true_eq, ih, List.pairwise_cons (a := x)]
      constructor
      · rintro ⟨h1, h2⟩
        refine ⟨fun z hz => ?_, h2⟩
        rcases List.mem_cons.1 hz with rfl | hz
        · exact h1
        · have := (List.pairwise_cons.1 h2).1 z hz; omega
      · rintro ⟨h1, h2⟩
        exact ⟨h1 y (List.mem_cons_self ..), h2⟩
/-- Without one. -/
def wout (ws : List Int) (b : Int) : List Int := ws.filter (fun x => decide (x ≠ b))
theorem count_wout {l : List Qu} {b x : Int} : ∀ {ws : List Int}, ws.Pairwise (· < ·) → b ∈ ws → (ws.flatMap (upR l)).count x = ((wout ws b).flatMap (upR l)).count x + (upR l b).count x := by
  intro ws
  induction ws with
  | nil => intro _ h; cases h
  | cons y r ih =>
    intro hp hb
    have hp2 := List.pairwise_cons.1 hp
    rw [List.flatMap_cons, List.count_append]
    by_cases e : y = b
    · subst e
      have hr : wout (y :: r) y = r := by
        unfold wout
        rw [List.filter_cons_of_neg (by simp), List.filter_eq_self]
        intro z hz
        have := hp2.1 z hz
        simp; omega
      rw [hr]; omega
    · have hbr : b ∈ r := by
        rcases List.mem_cons.1 hb with h | h
        · exact absurd h.symm e
        · exact h
      have hr : wout (y :: r) b = y :: wout r b := by unfold wout; rw [List.filter_cons_of_pos (by simpa using e)]
      rw [hr, List.flatMap_cons, List.count_append, ih hp2.2 hbr]; omega
theorem wout_len {b : Int} : ∀ {ws : List Int} {m : Nat}, ws.Pairwise (· < ·) → b ∈ ws → ws.length = m + 1 → (wout ws b).length = m := by
  intro ws
  induction ws with
  | nil => intro m _ h; cases h
  | cons y r ih =>
    intro m hp hb hm
    have hp2 := List.pairwise_cons.1 hp
    simp only [List.length_cons] at hm
    by_cases e : y = b
    · subst e
      have hr : wout (y :: r) y = r := by
        unfold wout
        rw [List.filter_cons_of_neg (by simp), List.filter_eq_self]
        intro z hz
        have := hp2.1 z hz
        simp; omega
      rw [hr]; omega
    · have hbr : b ∈ r := by
        rcases List.mem_cons.1 hb with h | h
        · exact absurd h.symm e
        · exact h
      have hr : wout (y :: r) b = y :: wout r b := by unfold wout; rw [List.filter_cons_of_pos (by simpa using e)]
      obtain ⟨k, hk⟩ : ∃ k, r.length = k + 1 := by
        cases r with
        | nil => cases hbr
        | cons z r => exact ⟨_, rfl⟩
      rw [hr, List.length_cons, ih hp2.2 hbr hk]; omega
theorem wait_wout {l : List Qu} {b : Int} {ws : List Int} (hp : ws.Pairwise (· < ·)) (hb : b ∈ ws) : addC (waitF l ws) (-1) (upR l b) = waitF l (wout ws b) := by
  funext x
  unfold waitF addC
  have := count_wout (l := l) (x := x) hp hb
  dsimp only
  omega
/-- The descent ends where somebody waits, and nobody below. -/
theorem desc_end {l : List Qu} {us : List Us} {tc tm : Int} {f : Int → Int} (hF : Form l) : ∀ m h, l.length - h = m → h < l.length → f (qa l h).id ≠ 0 → desc l us tc tm f h < l.length ∧ f (qa l (desc l us tc tm f h)).id ≠ 0 ∧ bstI l us tc tm f (qa l (desc l us tc tm f h)).id l.length = -1 := by
  intro m
  induction m using Nat.strongRecOn with
  | _ m ih =>
    intro h hm hh hf
    rcases bst_form l us tc tm f (qa l h).id l.length with hn | ⟨b, hb, hbe, hbp, hbf⟩
    · rw [desc_stop hn]; exact ⟨hh, hf, hn⟩
    · have hst := desc_step hF hh hb hbe hbp
      rw [hst.2]
      exact ih (l.length - b) (by omega) b rfl hb hbf
theorem wait_pos {l : List Qu} {ws : List Int} {x : Int} : waitF l ws x ≠ 0 ↔ ∃ y ∈ ws, x ∈ upR l y := by
  unfold waitF addC
  have : (0 : Int) + 1 * ((ws.flatMap (upR l)).count x : Int) ≠ 0 ↔ x ∈ ws.flatMap (upR l) := by rw [← List.count_pos_iff]; omega
  dsimp only
  rw [this, List.mem_flatMap]
theorem up_mem {l : List Qu} (hC : chkE l = 0) {y : Int} (hy : hasQ l y = true) {i : Nat} (hi : i < l.length) : (qa l i).id ∈ upR l y ↔ i ∈ pth l (pl l y) := by
  have hF := (chkE_ok.1 hC).2.1
  have hP : pl l y < l.length := of_decide_eq_true hy
  have hu : upR l y = (pth l (pl l y)).map (fun i => (qa l i).id) := by
    unfold upR
    rw [if_pos]
    unfold thereE
    rw [if_neg (by rw [hC]; decide), if_neg (by rw [hy]; decide)]
  rw [hu, List.mem_map]
  constructor
  · rintro ⟨j, hj, e⟩
    have hjl := pth_ltR hP hj
    have h1 := hF.pl hi
    rw [← e, hF.pl hjl] at h1
    rw [← h1]; exact hj
  · intro h; exact ⟨i, h, rfl⟩
/-- Whose turn it is wants something. -/
theorem turn_mem {l : List Qu} {us : List Us} {tc tm : Int} {ws : List Int} (hE : readE l us ws tc tm = 0) : (qa l (desc l us tc tm (waitF l ws) 0)).id ∈ ws := by
  obtain ⟨hS, ht, hr, h0, hth, hlf⟩ := readE_zero hE
  have hC := (sumsE_zero hS).1
  have hF := (chkE_ok.1 hC).2.1
  have hall : ∀ y ∈ ws, hasQ l y = true := by unfold allThere at hth; rwa [List.all_eq_true] at hth
  obtain ⟨y, hy⟩ : ∃ y, y ∈ ws := by
    cases ws with
    | nil => simp at h0
    | cons y r => exact ⟨y, List.mem_cons_self ..⟩
  have hroot : waitF l ws (qa l 0).id ≠ 0 := wait_pos.2 ⟨y, hy, (up_mem hC (hall y hy) hF.1).2 (root_way hF _ (of_decide_eq_true (hall y hy)))⟩
  obtain ⟨h1, h2, h3⟩ := desc_end (us := us) (tc := tc) (tm := tm) hF _ 0 rfl hF.1 hroot
  generalize desc l us tc tm (waitF l ws) 0 = P at *
  obtain ⟨x, hx, hxu⟩ := wait_pos.1 h2
  have hxP : pl l x < l.length := of_decide_eq_true (hall x hx)
  have hPm := (up_mem hC (hall x hx) h1).1 hxu
  by_cases e : P = pl l x
  · rw [e, pl_id hxP]; exact hx
  · exfalso
    have hw := way_child hF h1 1 (pl l x) hxP
    rw [if_pos ⟨hPm, e⟩] at hw
    have : ∃ k, k < l.length ∧ (qa l k).par = (qa l P).id ∧ k ∈ pth l (pl l x) := by
      refine Classical.byContradiction (fun hne => ?_)
      rw [sumI_zero (fun k hk => if_neg (fun hc => hne ⟨k, hk, hc⟩))] at hw
      cases hw
    obtain ⟨k, hk, hkp, hkm⟩ := this
    exact bst_some hk hkp (wait_pos.2 ⟨x, hx, (up_mem hC (hall x hx) hk).2 hkm⟩) h3
/-- What is left is right still. -/
theorem read_wout {l : List Qu} {us : List Us} {tc tm b : Int} {ws : List Int} (hE : readE l us ws tc tm = 0) (hn : (wout ws b).length ≠ 0) : readE l us (wout ws b) tc tm = 0 := by
  obtain ⟨hS, ht, hr, h0, hth, hlf⟩ := readE_zero hE
  have a : riseB (wout ws b) = true := rise_pair.2 ((rise_pair.1 hr).filter _)
  have c : allThere l (wout ws b) = true := by
    unfold allThere at *
    rw [List.all_eq_true] at *
    exact fun x hx => hth x (List.mem_filter.1 hx).1
  have d : allLeaf l (wout ws b) = true := by
    unfold allLeaf at *
    rw [List.all_eq_true] at *
    exact fun x hx => hlf x (List.mem_filter.1 hx).1
  unfold readE
  rw [if_neg (by rw [hS]; decide), if_neg (by rw [ht]; decide), if_neg (by rw [a]; decide), if_neg hn, if_neg (by rw [c]; decide), if_neg (by rw [d]; decide)]
/-- Behind the first turn. -/
theorem fAt_wout {l : List Qu} {us : List Us} {tc tm : Int} {ws : List Int} (hE : readE l us ws tc tm = 0) : ∀ k, fAt l us ws tc tm (k + 1) = fAt l us (wout ws (chooseR l us ws tc tm)) tc tm k := by
  have hc : chooseR l us ws tc tm = (qa l (desc l us tc tm (waitF l ws) 0)).id := by unfold chooseR; rw [if_pos hE]
  intro k
  induction k with
  | zero =>
    show addC (waitF l ws) (-1) (upR l (qa l (desc l us tc tm (waitF l ws) 0)).id) = waitF l (wout ws (chooseR l us ws tc tm))
    rw [hc]
    exact wait_wout (rise_pair.1 (readE_zero hE).2.2.1) (turn_mem hE)
  | succ k ih =>
    show addC (fAt l us ws tc tm (k + 1)) (-1) (upR l (qa l (desc l us tc tm (fAt l us ws tc tm (k + 1)) 0)).id) = _
    rw [ih]
    rfl
theorem ord_wout {l : List Qu} {us : List Us} {tc tm : Int} {ws : List Int} (hE : readE l us ws tc tm = 0) (k : Nat) : ordTo l us ws tc tm (k + 1) = chooseR l us ws tc tm :: ordTo l us (wout ws (chooseR l us ws tc tm)) tc tm k := by
  unfold ordTo
  rw [List.range_succ_eq_map, List.map_cons, List.map_map]
  congr 1
  · unfold chooseR turnAt; rw [if_pos hE]; rfl
  · apply List.map_congr_left
    intro i _
    show turnAt l us ws tc tm (i + 1) = _
    unfold turnAt
    rw [fAt_wout hE]

end Go.Proofs.Ytdomimpcjkajiaa
