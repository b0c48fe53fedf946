/-
  What a part of the leases uses.
-/
import Derived.Test.YtdbkjcnanffibaaUQ
import Derived.Test.YtdbkjcnanffibaaRR
import Derived.Test.YtdbkjcnanffibaaRN
namespace Go.Proofs.Ytdbkjcnanffibaa
open Go.RowKit Go.Deep Go.Maps Go.Shelf
set_option linter.unusedVariables false
set_option linter.unusedSimpArgs false

/-- A sum over numbers. -/
def sumQ (t : Int → Int) : List Int → Int
  | [] => 0
  | q :: r => t q + sumQ t r
theorem sumQ_same {t t' : Int → Int} : ∀ {l : List Int}, (∀ y ∈ l, t' y = t y) → sumQ t' l = sumQ t l := by
  intro l
  induction l with
  | nil => intro _; rfl
  | cons y r ih =>
    intro h
    show t' y + sumQ t' r = t y + sumQ t r
    rw [h y List.mem_cons_self, ih (fun z hz => h z (List.mem_cons_of_mem _ hz))]
theorem sumQ_ins {t : Int → Int} {q : Int} : ∀ {l : List Int}, q ∉ l → sumQ t (insI q l) = t q + sumQ t l := by
  intro l
  induction l with
  | nil => intro _; rfl
  | cons y r ih =>
    intro h
    have h1 : q ≠ y := fun e => h (by rw [e]; exact List.mem_cons_self)
    have h2 := ih (fun hm => h (List.mem_cons_of_mem _ hm))
    unfold insI
    by_cases h3 : q < y
    · rw [if_pos h3]; rfl
    · rw [if_neg h3, if_neg h1]
      show t y + sumQ t (insI q r) = t q + (t y + sumQ t r)
      omega
theorem sumQ_upd {t t' : Int → Int} {q d : Int} (h1 : t' q = t q + d) (h2 : ∀ y, y ≠ q → t' y = t y) : ∀ {l : List Int}, l.Pairwise (· < ·) → q ∈ l → sumQ t' l = sumQ t l + d := by
  intro l
  induction l with
  | nil => intro _ h; cases h
  | cons y r ih =>
    intro hp h
    have hp' := List.pairwise_cons.1 hp
    show t' y + sumQ t' r = t y + sumQ t r + d
    rcases List.mem_cons.1 h with rfl | h
    · rw [h1, sumQ_same (t := t) (t' := t') (fun z hz => h2 z (by have := hp'.1 z hz; omega))]; omega
    · have := hp'.1 q h
      rw [h2 y (by omega), ih hp'.2 h]; omega
/-- What the leases below a place use. -/
def cT (f : Le → Int) (l : List Qu) (i : Nat) : List Le → Int
  | [] => 0
  | x :: r => (if i ∈ pth l (pl l x.qu) then f x else 0) + cT f l i r
theorem cT_snoc (f : Le → Int) (l : List Qu) (i : Nat) (x : Le) : ∀ r : List Le, cT f l i (r ++ [x]) = cT f l i r + (if i ∈ pth l (pl l x.qu) then f x else 0) := by
  intro r
  induction r with
  | nil => simp [cT]
  | cons y r ih => simp only [List.cons_append, cT, ih]; omega
theorem cT_part {f : Le → Int} {l : List Qu} {i : Nat} {m ls : List Le} (h : m.Sublist ls) : (∀ x ∈ ls, 0 ≤ f x) → 0 ≤ cT f l i m ∧ cT f l i m ≤ cT f l i ls := by
  induction h with
  | slnil => intro _; simp [cT]
  | cons y h ih =>
    intro hg
    have h1 := ih (fun x hx => hg x (List.mem_cons_of_mem _ hx))
    have h2 := hg y List.mem_cons_self
    by_cases hc : i ∈ pth l (pl l y.qu)
    · simp only [cT, if_pos hc]; omega
    · simp only [cT, if_neg hc]; omega
  | cons_cons y h ih =>
    intro hg
    have h1 := ih (fun x hx => hg x (List.mem_cons_of_mem _ hx))
    have h2 := hg y List.mem_cons_self
    by_cases hc : i ∈ pth l (pl l y.qu)
    · simp only [cT, if_pos hc]; omega
    · simp only [cT, if_neg hc]; omega
theorem sumU_usesOf (pr : Int × Int → Int) (l : List Qu) (i : Nat) (g : Int → Int × Int) : ∀ ids : List Int, sumU (fun u => pr (u.uc, u.um)) l i (usesOf g ids) = sumQ (fun q => if i ∈ pth l (pl l q) then pr (g q) else 0) ids := by
  intro ids
  induction ids with
  | nil => rfl
  | cons q r ih =>
    show (if i ∈ pth l (pl l q) then pr (g q) else 0) + sumU (fun u => pr (u.uc, u.um)) l i (usesOf g r) = (if i ∈ pth l (pl l q) then pr (g q) else 0) + sumQ (fun q => if i ∈ pth l (pl l q) then pr (g q) else 0) r
    rw [ih]
theorem sumU_useV (pr : Int × Int → Int) (f : Le → Int) (hpr : ∀ (p : Int × Int) (x : Le), pr (p.1 + (x.sl : Int), p.2 + x.me) = pr p + f x) (h0 : pr (0, 0) = 0) (l : List Qu) (i : Nat) {ls : List Le} (hok : ∀ x ∈ ls, x.okB) : ∀ {k : Nat}, k ≤ ls.length → sumU (fun u => pr (u.uc, u.um)) l i (usesOf (fun q => useT ls q k) (idsT ls k)) = cT f l i (ls.take k) := by
  intro k
  induction k with
  | zero => intro _; simp [idsT, usesOf, sumU, cT]
  | succ k ih =>
    intro hk
    rw [List.take_add_one, la_get (by omega)]
    simp only [Option.toList_some]
    rw [cT_snoc, ← ih (by omega), sumU_usesOf, sumU_usesOf]
    have hR := riseT hok (show k ≤ ls.length by omega)
    have hu : ∀ y, y ≠ (la ls k).qu → (if i ∈ pth l (pl l y) then pr (useT ls y (k + 1)) else 0) = (if i ∈ pth l (pl l y) then pr (useT ls y k) else 0) := fun y hy => by
      rw [useT_cons, if_neg (Ne.symm hy)]
    have hq : (if i ∈ pth l (pl l (la ls k).qu) then pr (useT ls (la ls k).qu (k + 1)) else 0) = (if i ∈ pth l (pl l (la ls k).qu) then pr (useT ls (la ls k).qu k) else 0) + (if i ∈ pth l (pl l (la ls k).qu) then f (la ls k) else 0) := by
      rw [useT_cons, if_pos rfl, hpr]
      split
      · rfl
      · rfl
    by_cases hm : (la ls k).qu ∈ idsT ls k
    · have e : idsT ls (k + 1) = idsT ls k := insI_in hR.1 hm
      rw [e]
      exact sumQ_upd (t := fun q => if i ∈ pth l (pl l q) then pr (useT ls q k) else 0) (t' := fun q => if i ∈ pth l (pl l q) then pr (useT ls q (k + 1)) else 0) (q := (la ls k).qu) hq hu hR.1 hm
    · show sumQ _ (insI (la ls k).qu (idsT ls k)) = _
      rw [sumQ_ins hm, sumQ_same (t := fun q => if i ∈ pth l (pl l q) then pr (useT ls q k) else 0) (fun y hy => hu y (fun e => hm (e ▸ hy))), hq]
      have hz : useT ls (la ls k).qu k = (0, 0) := useT_no (by
        cases h : hasT ls (la ls k).qu k with
        | false => rfl
        | true => exact absurd ((hR.2.1 _).2 h) hm)
      rw [hz, h0]
      simp only [ite_self]
      omega
theorem vecAt_useV (l : List Qu) (i : Nat) {ls : List Le} (hok : ∀ x ∈ ls, x.okB) : vecAt l (useV ls) i = (cT (fun x => (x.sl : Int)) l i ls, cT Le.me l i ls) := by
  have h1 := sumU_useV Prod.fst (fun x => (x.sl : Int)) (fun _ _ => rfl) rfl l i hok (Nat.le_refl ls.length)
  have h2 := sumU_useV Prod.snd Le.me (fun _ _ => rfl) rfl l i hok (Nat.le_refl ls.length)
  rw [List.take_length] at h1 h2
  unfold vecAt useV
  exact Prod.ext h1 h2
theorem gd_pos {ls : List Le} (hg : gdB ls = true) : ∀ x ∈ ls, 0 ≤ x.me := by
  intro x hx
  unfold gdB at hg
  rw [List.all_eq_true] at hg
  have := hg x hx
  unfold Le.gd at this
  rw [Bool.and_eq_true] at this
  exact (okv_true this.2).2.1
theorem sumsE_all {l : List Qu} {us : List Us} (h : sumsE l us = 0) : ∀ u ∈ us, useE l u = 0 := by
  refine Classical.byContradiction (fun hn => ?_)
  have h1 := usesE_ne hn
  unfold sumsE at h
  by_cases hc : chkE l ≠ 0
  · rw [if_pos hc] at h; exact hc h
  · rw [if_neg hc, if_pos h1] at h; exact h1 h
theorem sumsE_mk {l : List Qu} {us : List Us} (hC : chkE l = 0) (hA : ∀ u ∈ us, useE l u = 0) (hF : fitsB l us = true) : sumsE l us = 0 := by
  unfold sumsE
  rw [if_neg (by simp [hC]), if_neg (by rw [usesE_good hA]; simp), if_neg (by rw [hF]; simp)]
theorem readE_parts {l : List Qu} {ls : List Le} (h : readE l ls = 0) : chkE l = 0 ∧ useErr ls = 0 ∧ sumsE l (useV ls) = 0 := by
  unfold readE at h
  by_cases h1 : chkE l = 0
  · rw [if_pos h1] at h
    by_cases h2 : useErr ls = 0
    · rw [if_pos h2] at h; exact ⟨h1, h2, h⟩
    · rw [if_neg h2] at h; exact absurd h h2
  · rw [if_neg h1] at h; exact absurd h h1
theorem readE_mk {l : List Qu} {ls : List Le} (h1 : chkE l = 0) (h2 : useErr ls = 0) (h3 : sumsE l (useV ls) = 0) : readE l ls = 0 := by
  unfold readE; rw [if_pos h1, if_pos h2, h3]
theorem useErr_gd {ls : List Le} (h : useErr ls = 0) : gdB ls = true ∧ fitT ls ls.length = true := by
  unfold useErr at h
  split at h
  · rename_i hg
    split at h
    · rename_i hf; exact ⟨hg, hf⟩
    · cases h
  · cases h
theorem mem_idsT {ls : List Le} (hok : ∀ x ∈ ls, x.okB) {q : Int} : q ∈ idsT ls ls.length ↔ ∃ x ∈ ls, x.qu = q := by
  rw [(riseT hok (Nat.le_refl _)).2.1 q]
  have : ∀ {m : Nat}, m ≤ ls.length → (hasT ls q m = true ↔ ∃ x ∈ ls.take m, x.qu = q) := by
    intro m
    induction m with
    | zero => intro _; simp [hasT]
    | succ m ih =>
      intro hm
      show (hasT ls q m || decide (q = (la ls m).qu)) = true ↔ _
      rw [Bool.or_eq_true, ih (by omega), decide_eq_true_eq, List.take_add_one, la_get (by omega)]
      simp only [Option.toList_some, List.mem_append, List.mem_singleton]
      constructor
      · rintro (⟨x, hx, e⟩ | e)
        · exact ⟨x, .inl hx, e⟩
        · exact ⟨_, .inr rfl, e.symm⟩
      · rintro ⟨x, hx | rfl, e⟩
        · exact .inl ⟨x, hx, e⟩
        · exact .inr e.symm
  have h := this (Nat.le_refl ls.length)
  rw [List.take_length] at h
  exact h
/-- The queue of a lease that is right is a leaf that is there. -/
theorem read_leaf {l : List Qu} {ls : List Le} (hok : ∀ x ∈ ls, x.okB) (h : readE l ls = 0) {x : Le} (hx : x ∈ ls) : hasQ l x.qu = true ∧ leafB l x.qu = true := by
  obtain ⟨h1, h2, h3⟩ := readE_parts h
  have hm : (⟨x.qu, (useT ls x.qu ls.length).1, (useT ls x.qu ls.length).2⟩ : Us) ∈ useV ls := List.mem_map.2 ⟨x.qu, (mem_idsT hok).2 ⟨x, hx, rfl⟩, rfl⟩
  have := useE_zero (sumsE_all h3 _ hm)
  exact ⟨this.1, this.2.1⟩
/-- A part of what is right is right. -/
theorem readE_part {l : List Qu} {m ls : List Le} (hok : ∀ x ∈ ls, x.okB) (hs : m.Sublist ls) (h : readE l ls = 0) : readE l m = 0 := by
  obtain ⟨h1, h2, h3⟩ := readE_parts h
  have hokm : ∀ x ∈ m, x.okB := fun x hx => hok x (hs.subset hx)
  have h2m := useErr_part hs h2
  obtain ⟨hg, hf⟩ := useErr_gd h2
  obtain ⟨hgm, hfm⟩ := useErr_gd h2m
  refine readE_mk h1 h2m (sumsE_mk h1 (fun u hu => ?_) (fitsB_yes (fun k hk => ?_)))
  · obtain ⟨q, hq, rfl⟩ := List.mem_map.1 hu
    obtain ⟨x, hx, e⟩ := (mem_idsT hokm).1 hq
    have h5 := read_leaf hok h (hs.subset hx)
    rw [e] at h5
    have h6 := fitT_ok (q := q) hfm
    unfold useE
    simp only
    rw [if_neg (by rw [h5.1]; decide), if_neg (by rw [h5.2]; decide)]
    exact chk_ok h6
  · have h5 := fits_at (sumsE_zero h3).2 hk
    rw [vecAt_useV l k hok] at h5
    rw [vecAt_useV l k hokm]
    obtain ⟨a1, a2⟩ := okv_true h5
    have b1 := cT_part (f := fun x => (x.sl : Int)) (l := l) (i := k) hs (fun x _ => Int.natCast_nonneg _)
    have b2 := cT_part (f := Le.me) (l := l) (i := k) hs (gd_pos hg)
    simp only at a1 a2
    unfold okp at a1 a2
    unfold okv okp
    rw [decide_eq_true_eq]
    refine ⟨⟨?_, ?_⟩, ?_, ?_⟩ <;> simp only <;> omega
/-- What a leaf uses is what its own leases use. -/
theorem cT_leaf {l : List Qu} {ls : List Le} (hok : ∀ x ∈ ls, x.okB) (h : readE l ls = 0) {q : Int} (hq : hasQ l q = true) (hl : leafB l q = true) : vecAt l (useV ls) (pl l q) = useT ls q ls.length := by
  rw [vecAt_useV l _ hok, useT_sum ls q (Nat.le_refl _), List.take_length]
  have hC := (readE_parts h).1
  have hF := (chkE_ok.1 hC).2.1
  have hp : pl l q < l.length := of_decide_eq_true hq
  have hall : ∀ x ∈ ls, (pl l q ∈ pth l (pl l x.qu) ↔ x.qu = q) := fun x hx => by
    have hx' := read_leaf hok h hx
    have hxp : pl l x.qu < l.length := of_decide_eq_true hx'.1
    have hid : (qa l (pl l q)).id = q := pl_id hp
    rw [leaf_way hF hp (by rw [hid]; exact hl) hxp]
    constructor
    · intro e
      have h1 : (qa l (pl l x.qu)).id = x.qu := pl_id hxp
      rw [← e, hid] at h1
      exact h1.symm
    · rintro rfl; rfl
  clear h hok
  induction ls with
  | nil => rfl
  | cons x r ih =>
    have h1 := hall x List.mem_cons_self
    have h2 := ih (fun y hy => hall y (List.mem_cons_of_mem _ hy))
    have h3 := congrArg Prod.fst h2
    have h4 := congrArg Prod.snd h2
    simp only at h3 h4
    rw [sumL_cons]
    show ((if _ then _ else 0) + cT _ l _ r, (if _ then _ else 0) + cT _ l _ r) = _
    by_cases e : x.qu = q
    · rw [if_pos (h1.2 e), if_pos (h1.2 e), if_pos e, h3, h4]
      exact Prod.ext (by simp only; omega) (by simp only; omega)
    · rw [if_neg (fun h => e (h1.1 h)), if_neg (fun h => e (h1.1 h)), if_neg e, h3, h4]
      exact Prod.ext (by simp only; omega) (by simp only; omega)
end Go.Proofs.Ytdbkjcnanffibaa
