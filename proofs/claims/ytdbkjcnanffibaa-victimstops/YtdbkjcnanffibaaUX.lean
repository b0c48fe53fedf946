/-
  The document's choice is the code's: mathematics.
-/
import Derived.Test.YtdbkjcnanffibaaUV
import Derived.Test.YtdbkjcnanffibaaUL
namespace Go.Proofs.Ytdbkjcnanffibaa
open Go.RowKit Go.Deep Go.Maps Go.Shelf
set_option linter.unusedVariables false
set_option linter.unusedSimpArgs false

/-- The greatest task of the first k leases that may yield so. -/
def lastC (y : Le → Bool) (m : List Le) : Nat → Option Int
  | 0 => none
  | k + 1 => if y (la m k) = true then (match lastC y m k with
    | none => some (la m k).ta
    | some t => if t < (la m k).ta then some (la m k).ta else some t) else lastC y m k
/-- May a lease of the queue at a place yield? -/
def yB (l : List Qu) (us : List Us) (k : Nat) (x : Le) : Bool := decide (x.qu = (qa l k).id) && fitB (qa l k).mc (qa l k).mm ((vecAt l us k).1 - (x.sl : Int)) ((vecAt l us k).2 - x.me)
/-- How the shares of the queues at two places stand. -/
def lessK (l : List Qu) (us : List Us) (p q : Int) (k j : Nat) : Int := lev (vecAt l us k).1 (vecAt l us k).2 (qa l k).wt (vecAt l us j).1 (vecAt l us j).2 (qa l j).wt p q
/-- The best queue, and its task, of the first k queues. -/
def docT (l : List Qu) (us : List Us) (m : List Le) (p q : Int) : Nat → Int × Int
  | 0 => (-1, -1)
  | k + 1 => match lastC (yB l us k) m m.length with
    | none => docT l us m p q k
    | some t => if (docT l us m p q k).1 < 0 ∨ 0 < lessK l us p q k (pl l (docT l us m p q k).1) then ((qa l k).id, t) else docT l us m p q k
theorem lastC_none {y : Le → Bool} {m : List Le} : ∀ {k : Nat}, lastC y m k = none → ∀ j, j < k → y (la m j) = false := by
  intro k
  induction k with
  | zero => intro _ j hj; omega
  | succ k ih =>
    intro h j hj
    unfold lastC at h
    split at h
    · split at h
      · cases h
      · split at h <;> cases h
    · rename_i hy
      rcases Nat.lt_or_ge j k with h1 | h1
      · exact ih h j h1
      · obtain rfl : j = k := by omega
        simpa using hy
theorem lastC_some {y : Le → Bool} {m : List Le} {t : Int} : ∀ {k : Nat}, lastC y m k = some t → (∃ j, j < k ∧ y (la m j) = true ∧ (la m j).ta = t) ∧ ∀ j, j < k → y (la m j) = true → (la m j).ta ≤ t := by
  intro k
  induction k generalizing t with
  | zero => intro h; cases h
  | succ k ih =>
    intro h
    unfold lastC at h
    split at h
    · rename_i hy
      split at h
      · rename_i hn
        cases h
        refine ⟨⟨k, by omega, hy, rfl⟩, fun j hj hj2 => ?_⟩
        rcases Nat.lt_or_ge j k with h1 | h1
        · rw [lastC_none hn j h1] at hj2; cases hj2
        · obtain rfl : j = k := by omega
          exact Int.le_refl _
      · rename_i t' hs
        obtain ⟨⟨j', hj', hy', e'⟩, hb⟩ := ih hs
        split at h
        · rename_i hlt
          cases h
          refine ⟨⟨k, by omega, hy, rfl⟩, fun j hj hj2 => ?_⟩
          rcases Nat.lt_or_ge j k with h1 | h1
          · have := hb j h1 hj2; omega
          · obtain rfl : j = k := by omega
            exact Int.le_refl _
        · rename_i hlt
          cases h
          refine ⟨⟨j', by omega, hy', e'⟩, fun j hj hj2 => ?_⟩
          rcases Nat.lt_or_ge j k with h1 | h1
          · exact hb j h1 hj2
          · obtain rfl : j = k := by omega
            omega
    · rename_i hy
      obtain ⟨⟨j', hj', hy', e'⟩, hb⟩ := ih h
      refine ⟨⟨j', by omega, hy', e'⟩, fun j hj hj2 => ?_⟩
      rcases Nat.lt_or_ge j k with h1 | h1
      · exact hb j h1 hj2
      · obtain rfl : j = k := by omega
        exact absurd hj2 hy
/-- What is told of the first k queues. -/
theorem docT_inv {l : List Qu} {us : List Us} {m : List Le} {p q : Int} (hF : Form l) (ht : ∀ a b, a < l.length → b < l.length → lessK l us p q b a = -lessK l us p q a b) (htr : ∀ a b c, a < l.length → b < l.length → c < l.length → lessK l us p q a b ≤ 0 → lessK l us p q b c ≤ 0 → lessK l us p q a c ≤ 0) : ∀ {k : Nat}, k ≤ l.length →
    (docT l us m p q k = (-1, -1) ∧ ∀ j, j < k → lastC (yB l us j) m m.length = none) ∨
    ∃ b t, b < k ∧ docT l us m p q k = ((qa l b).id, t) ∧ lastC (yB l us b) m m.length = some t ∧ ∀ j, j < k → lastC (yB l us j) m m.length ≠ none → lessK l us p q j b ≤ 0 ∧ (lessK l us p q j b = 0 → b ≤ j) := by
  intro k
  induction k with
  | zero => intro _; exact .inl ⟨rfl, fun j hj => by omega⟩
  | succ k ih =>
    intro hk
    have hkk : lessK l us p q k k = 0 := by have := ht k k (by omega) (by omega); omega
    cases hc : lastC (yB l us k) m m.length with
    | none =>
      have e : docT l us m p q (k + 1) = docT l us m p q k := by
        show (match lastC (yB l us k) m m.length with | none => _ | some t => _) = _
        rw [hc]
      rw [e]
      rcases ih (by omega) with ⟨h1, h2⟩ | ⟨b, t, hb, h1, h2, h3⟩
      · refine .inl ⟨h1, fun j hj => ?_⟩
        rcases Nat.lt_or_ge j k with h | h
        · exact h2 j h
        · obtain rfl : j = k := by omega
          exact hc
      · refine .inr ⟨b, t, by omega, h1, h2, fun j hj hj2 => ?_⟩
        rcases Nat.lt_or_ge j k with h | h
        · exact h3 j h hj2
        · obtain rfl : j = k := by omega
          exact absurd hc hj2
    | some t0 =>
      have e : docT l us m p q (k + 1) = if (docT l us m p q k).1 < 0 ∨ 0 < lessK l us p q k (pl l (docT l us m p q k).1) then ((qa l k).id, t0) else docT l us m p q k := by
        show (match lastC (yB l us k) m m.length with | none => _ | some t => _) = _
        rw [hc]
      rw [e]
      rcases ih (by omega) with ⟨h1, h2⟩ | ⟨b, t, hb, h1, h2, h3⟩
      · rw [if_pos (.inl (by rw [h1]; decide))]
        refine .inr ⟨k, t0, by omega, rfl, hc, fun j hj hj2 => ?_⟩
        rcases Nat.lt_or_ge j k with h | h
        · exact absurd (h2 j h) hj2
        · obtain rfl : j = k := by omega
          exact ⟨by omega, fun _ => Nat.le_refl _⟩
      · have hid := hF.id_nonneg (show b < l.length by omega)
        have hpl : pl l (docT l us m p q k).1 = b := by rw [h1]; exact hF.pl (by omega)
        rw [hpl]
        by_cases hlt : 0 < lessK l us p q k b
        · rw [if_pos (.inr hlt)]
          refine .inr ⟨k, t0, by omega, rfl, hc, fun j hj hj2 => ?_⟩
          rcases Nat.lt_or_ge j k with h | h
          · obtain ⟨g1, g2⟩ := h3 j h hj2
            have u1 := ht k b (by omega) (by omega)
            have u2 := ht j k (by omega) (by omega)
            have v1 := htr j b k (by omega) (by omega) (by omega) g1 (by omega)
            refine ⟨v1, fun hz => ?_⟩
            exfalso
            have v2 := htr k j b (by omega) (by omega) (by omega) (by omega) g1
            omega
          · obtain rfl : j = k := by omega
            exact ⟨by omega, fun _ => Nat.le_refl _⟩
        · rw [if_neg (by rw [h1]; simp only; omega)]
          refine .inr ⟨b, t, by omega, h1, h2, fun j hj hj2 => ?_⟩
          rcases Nat.lt_or_ge j k with h | h
          · exact h3 j h hj2
          · obtain rfl : j = k := by omega
            exact ⟨by omega, fun _ => by omega⟩
theorem gd_at {m : List Le} (hg : gdB m = true) {x : Le} (hx : x ∈ m) : okv ((x.sl : Int), x.me) = true := by
  unfold gdB at hg
  rw [List.all_eq_true] at hg
  have := hg x hx
  unfold Le.gd at this
  rw [Bool.and_eq_true] at this
  exact this.2
theorem may_y {l : List Qu} {m : List Le} (hok : ∀ x ∈ m, x.okB) (h : readE l m = 0) {x : Le} (hx : x ∈ m) {k : Nat} (hk : k < l.length) (e : x.qu = (qa l k).id) :
    mayB (fun id => qfT l id l.length) (fun i => useT m i m.length) x.qu (x.sl : Int) x.me = yB l (useV m) k x ∧ vecAt l (useV m) k = useT m x.qu m.length ∧ qfT l x.qu l.length = some (qa l k) := by
  have hF := (chkE_ok.1 (readE_parts h).1).2.1
  have hp : pl l x.qu = k := by rw [e]; exact hF.pl hk
  have h2 := read_leaf hok h hx
  have hv : vecAt l (useV m) k = useT m x.qu m.length := by rw [← hp]; exact cT_leaf hok h h2.1 h2.2
  have hq : qfT l x.qu l.length = some (qa l k) := by rw [qfT_at hF (by omega), hp]
  refine ⟨?_, hv, hq⟩
  obtain ⟨hg, hf⟩ := useErr_gd (readE_parts h).2.1
  have ho := fitT_ok (q := x.qu) hf
  have hxg := gd_at hg hx
  have hs := sumL_le (q := x.qu) (List.singleton_sublist.2 hx) hg
  have e1 : sumL x.qu [x] = ((x.sl : Int), x.me) := by rw [sumL_cons, if_pos rfl]; simp [sumL]
  have e2 := useT_sum m x.qu (Nat.le_refl _)
  rw [List.take_length] at e2
  rw [e1, ← e2] at hs
  unfold mayB yB
  rw [hv, e, decide_eq_true rfl, Bool.true_and, ← e]
  simp only [hq, Option.getD_some]
  generalize useT m x.qu m.length = G at *
  obtain ⟨g1, g2⟩ := G
  simp only at *
  have o1 := okv_true ho
  have o2 := okv_true hxg
  unfold okp at o1 o2
  simp only at o1 o2
  have od : okv (g1 - (x.sl : Int), g2 - x.me) = true := by
    unfold okv okp
    rw [decide_eq_true_eq]
    refine ⟨⟨?_, ?_⟩, ?_, ?_⟩ <;> simp only <;> omega
  rw [(rop_yes (s := (g1 - (x.sl : Int), g2 - x.me)) (by simp [ho, hxg])).1]
  unfold rin
  rw [if_pos od]
theorem less_ok {l : List Qu} {m : List Le} {p q : Int} (h : readE l m = 0) (hc : chk p q = 0) {k : Nat} (hk : k < l.length) : sok p q ((vecAt l (useV m) k).1, (vecAt l (useV m) k).2) (qa l k).wt := by
  obtain ⟨h1, h2, h3⟩ := readE_parts h
  have hG := chkE_ok.1 h1
  have hw := (arg_at hG.2.2.1 (show qa l k ∈ l by unfold qa; rw [List.getElem?_eq_getElem hk]; exact List.getElem_mem hk)).1
  unfold okw at hw
  refine ⟨fits_at (sumsE_zero h3).2 hk, (of_decide_eq_true hw).1, ?_⟩
  unfold chk at hc
  split at hc
  · rename_i h; unfold okv; exact decide_eq_true h
  · cases hc
set_option maxHeartbeats 1000000 in
/-- The document's choice is the code's. -/
theorem choose_eq {l : List Qu} {m : List Le} {p q : Int} (hok : ∀ x ∈ m, x.okB) (h : readE l m = 0) (hc : chk p q = 0) :
    docT l (useV m) m p q l.length = ((greT (fun id => qfT l id l.length) (fun i => useT m i m.length) p q m m.length).map (fun b => (b.qu, b.ta))).getD (-1, -1) := by
  have hF := (chkE_ok.1 (readE_parts h).1).2.1
  have hcd : ∀ j, j < m.length → candOk (fun id => qfT l id l.length) (fun i => useT m i m.length) p q (la m j).qu := fun j hj => cand_of hok h hc (la_mem hj)
  have hpl : ∀ j, j < m.length → pl l (la m j).qu < l.length ∧ (la m j).qu = (qa l (pl l (la m j).qu)).id := fun j hj => by
    have h2 := (read_leaf hok h (la_mem hj)).1
    have hp : pl l (la m j).qu < l.length := of_decide_eq_true h2
    exact ⟨hp, (pl_id hp).symm⟩
  have hinv := docT_inv (m := m) (p := p) (q := q) (us := useV m) hF (fun a b ha hb => lev_turn _ _ _ _ _ _ _ _) (fun a b c ha hb hcc g1 g2 => lev_trans (less_ok h hc ha) (less_ok h hc hb) (less_ok h hc hcc) g1 g2) (Nat.le_refl l.length)
  rcases hinv with ⟨h1, h2⟩ | ⟨bk, t, hb, h1, h2, h3⟩
  · rw [h1]
    cases hg : greT (fun id => qfT l id l.length) (fun i => useT m i m.length) p q m m.length with
    | none => rfl
    | some b =>
      exfalso
      obtain ⟨⟨j, hj, e⟩, hm, _⟩ := greT_best (Nat.le_refl _) hcd hg
      obtain ⟨p1, p2⟩ := hpl j hj
      have y1 := lastC_none (h2 _ p1) j hj
      rw [e, (may_y hok h (la_mem hj) p1 p2).1, y1] at hm
      cases hm
  · rw [h1]
    obtain ⟨⟨j, hj, hy, et⟩, hmax⟩ := lastC_some h2
    have ex : (la m j).qu = (qa l bk).id := by
      unfold yB at hy
      rw [Bool.and_eq_true, decide_eq_true_eq] at hy
      exact hy.1
    obtain ⟨m1, m2, m3⟩ := may_y hok h (la_mem hj) hb ex
    rw [hy] at m1
    cases hg : greT (fun id => qfT l id l.length) (fun i => useT m i m.length) p q m m.length with
    | none => exact absurd m1 (by rw [greT_none hg j hj]; decide)
    | some b =>
      obtain ⟨⟨j', hj', e⟩, hm, hbf⟩ := greT_best (Nat.le_refl _) hcd hg
      obtain ⟨p1, p2⟩ := hpl j' hj'
      obtain ⟨n1, n2, n3⟩ := may_y hok h (la_mem hj') p1 p2
      rw [e, n1] at hm
      have hne : lastC (yB l (useV m) (pl l (la m j').qu)) m m.length ≠ none := fun hn => by rw [lastC_none hn j' hj'] at hm; cases hm
      obtain ⟨g1, g2⟩ := h3 _ p1 hne
      have b1 := hbf j hj m1
      have hno : ¬ (befB (fun id => qfT l id l.length) (fun i => useT m i m.length) (la m j).ta (la m j).qu b.ta b.qu p q = true) := by rw [b1]; decide
      rw [bef_iff] at hno
      have ho : ordQ (fun id => qfT l id l.length) (fun i => useT m i m.length) (la m j).qu (la m j').qu p q = lessK l (useV m) p q bk (pl l (la m j').qu) := by
        rw [ordQ_lev (hcd j hj) (hcd j' hj')]
        unfold lessK
        rw [m2, n2]
        simp only [m3, n3, Option.getD_some]
      have ht : lessK l (useV m) p q bk (pl l (la m j').qu) = -lessK l (useV m) p q (pl l (la m j').qu) bk := lev_turn _ _ _ _ _ _ _ _
      have hq : (la m j).qu = (la m j').qu := by
        refine Classical.byContradiction (fun hn => hno (.inr ⟨by rw [e]; exact hn, ?_⟩))
        rw [e, ho]
        by_cases hz : lessK l (useV m) p q (pl l (la m j').qu) bk = 0
        · refine .inr ⟨by omega, ?_⟩
          have hle := g2 hz
          have hne2 : bk ≠ pl l (la m j').qu := fun h => hn (by rw [ex, p2, ← h])
          rw [ex, p2]
          exact hF.rise (by omega) p1
        · exact .inl (by omega)
      have hbk : pl l (la m j').qu = bk := by rw [← hq, ex]; exact hF.pl hb
      have t1 := hmax j' hj' (by rw [← hbk]; exact hm)
      have t2 : (la m j).ta ≤ b.ta := by
        refine Classical.byContradiction (fun hn => hno (.inl ⟨by rw [e]; exact hq, by omega⟩))
      simp only [Option.map_some, Option.getD_some]
      rw [e] at t2 ⊢
      exact Prod.ext (by simp only; rw [← ex, hq]) (by simp only; omega)
end Go.Proofs.Ytdbkjcnanffibaa
