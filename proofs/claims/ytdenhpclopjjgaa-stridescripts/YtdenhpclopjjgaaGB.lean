/-
  Clients that share quanta: who joins, leaves, changes; plain mathematics, no program.
-/
import Derived.Test.YtdenhpclopjjgaaGA
namespace Go.Proofs.Ytdenhpclopjjgaa
open Go.RowKit
set_option linter.unusedVariables false

/-- Where an Id stands, or would; is it there? -/
def sk (l : List Cl) (id : Int) : Nat := l.findIdx (fun c => decide (id ≤ c.id))
theorem sk_le (l : List Cl) (id : Int) : sk l id ≤ l.length := List.findIdx_le_length
theorem sk_at {l : List Cl} {id : Int} (h : sk l id < l.length) : id ≤ (ca l (sk l id)).id := by
  have := List.findIdx_getElem (w := h)
  rw [← ca_eq h]
  exact of_decide_eq_true this
theorem sk_before {l : List Cl} {id : Int} {i : Nat} (h : i < sk l id) : (ca l i).id < id := by
  have hl := sk_le l id
  rw [← ca_eq (show i < l.length by omega)]
  have := List.not_of_lt_findIdx h
  simpa using this
theorem sk_from {l : List Cl} (hr : ∀ i j, i < j → j < l.length → (ca l i).id < (ca l j).id) {id : Int} {i : Nat} (h : sk l id ≤ i) (hi : i < l.length) : id ≤ (ca l i).id := by
  have h1 := sk_at (l := l) (id := id) (by omega)
  rcases Nat.lt_or_ge (sk l id) i with h2 | h2
  · have := hr _ _ h2 hi; omega
  · have : sk l id = i := by omega
    rw [← this]; exact h1
theorem sk_eq {l : List Cl} {id : Int} {k : Nat} (hk : k ≤ l.length) (h1 : ∀ i, i < k → (ca l i).id < id) (h2 : k < l.length → id ≤ (ca l k).id) : sk l id = k := by
  have hl := sk_le l id
  rcases Nat.lt_trichotomy (sk l id) k with h | h | h
  · have a := sk_at (l := l) (id := id) (by omega)
    have b := h1 _ h
    omega
  · exact h
  · have a := sk_before h
    have b := h2 (by omega)
    omega
def hs (l : List Cl) (id : Int) : Bool := decide (sk l id < l.length) && decide ((ca l (sk l id)).id = id)
theorem hs_yes {l : List Cl} {id : Int} (h : hs l id = true) : sk l id < l.length ∧ (ca l (sk l id)).id = id := by unfold hs at h; simpa using h
theorem hs_iff {l : List Cl} (hr : ∀ i j, i < j → j < l.length → (ca l i).id < (ca l j).id) {id : Int} : hs l id = true ↔ ∃ i, i < l.length ∧ (ca l i).id = id := by
  constructor
  · intro h; exact ⟨_, hs_yes h⟩
  · rintro ⟨i, hi, e⟩
    have : sk l id = i := sk_eq (by omega) (fun j hj => by have := hr j i hj hi; omega) (fun _ => by omega)
    unfold hs
    rw [this]; simp [hi, e]
theorem sk_of {l : List Cl} (hr : ∀ i j, i < j → j < l.length → (ca l i).id < (ca l j).id) {i : Nat} (hi : i < l.length) : sk l (ca l i).id = i :=
  sk_eq (by omega) (fun j hj => hr j i hj hi) (fun _ => Int.le_refl _)
theorem hs_no {l : List Cl} (hr : ∀ i j, i < j → j < l.length → (ca l i).id < (ca l j).id) {id : Int} (h : hs l id = false) {i : Nat} (hi : i < l.length) : (ca l i).id ≠ id := by
  intro e
  have := (hs_iff hr).2 ⟨i, hi, e⟩
  rw [this] at h; cases h

/-- With a client more at a place; with one less. -/
def insC (l : List Cl) (i : Nat) (c : Cl) : List Cl := l.take i ++ c :: l.drop i
theorem insC_len {l : List Cl} {i : Nat} {c : Cl} (h : i ≤ l.length) : (insC l i c).length = l.length + 1 := by unfold insC; simp; omega
theorem ca_ins {l : List Cl} {i j : Nat} {c : Cl} (h : i ≤ l.length) (hj : j < l.length + 1) : ca (insC l i c) j = if j < i then ca l j else if j = i then c else ca l (j - 1) := by
  unfold insC ca
  rcases Nat.lt_trichotomy j i with e | e | e
  · rw [if_pos e, List.getElem?_append_left (by simp; omega), List.getElem?_take, if_pos e]
  · subst e
    rw [if_neg (by omega), if_pos rfl, List.getElem?_append_right (by simp; omega)]
    have : j - (l.take j).length = 0 := by simp; omega
    rw [this]; rfl
  · rw [if_neg (by omega), if_neg (by omega), List.getElem?_append_right (by simp; omega)]
    have : j - (l.take i).length = (j - 1 - i) + 1 := by simp; omega
    rw [this, List.getElem?_cons_succ, List.getElem?_drop]
    congr 2; omega
def delC (l : List Cl) (i : Nat) : List Cl := l.take i ++ l.drop (i + 1)
theorem delC_len {l : List Cl} {i : Nat} (h : i < l.length) : (delC l i).length = l.length - 1 := by unfold delC; simp; omega
theorem ca_del {l : List Cl} {i j : Nat} (h : i < l.length) (hj : j < l.length - 1) : ca (delC l i) j = if j < i then ca l j else ca l (j + 1) := by
  unfold delC ca
  rcases Nat.lt_or_ge j i with e | e
  · rw [if_pos e, List.getElem?_append_left (by simp; omega), List.getElem?_take, if_pos e]
  · rw [if_neg (by omega), List.getElem?_append_right (by simp; omega), List.getElem?_drop]
    congr 2; simp; omega

def tkOk (t : Int) : Bool := decide (1 ≤ t) && decide (t ≤ 16)
theorem tkOk_yes {t : Int} (h : tkOk t = true) : 1 ≤ t ∧ t ≤ 16 := by unfold tkOk at h; simpa using h
theorem tkOk_no {t : Int} (h : tkOk t = false) : t < 1 ∨ 16 < t := by unfold tkOk at h; simp at h; omega
def joinE (l : List Cl) (id t r : Int) : Int := if hs l id then 9 else if tkOk t = false ∨ r < 0 ∨ stv t < r then 1 else if l.length = 1024 then 10 else 0
def joinM (l : List Cl) (id t r : Int) : List Cl := if joinE l id t r = 0 then lev (insC l (sk l id) ⟨id, t, r⟩) else l
theorem joinE_zero {l : List Cl} {id t r : Int} (h : joinE l id t r = 0) : hs l id = false ∧ 1 ≤ t ∧ t ≤ 16 ∧ 0 ≤ r ∧ r ≤ stv t ∧ l.length ≠ 1024 := by
  unfold joinE at h
  split at h
  · omega
  · rename_i h1
    split at h
    · omega
    · rename_i h2
      split at h
      · omega
      · rename_i h3
        have h4 : tkOk t = true := by cases e : tkOk t <;> simp_all
        have := tkOk_yes h4
        refine ⟨by simpa using h1, this.1, this.2, ?_, ?_, h3⟩
        · rcases Int.lt_or_le r 0 with e | e
          · exact absurd (Or.inr (Or.inl e)) h2
          · exact e
        · rcases Int.lt_or_le (stv t) r with e | e
          · exact absurd (Or.inr (Or.inr e)) h2
          · exact e
theorem Gr.ins {l : List Cl} (h : Gr l) {id t r : Int} (hi : I64 id) (hE : joinE l id t r = 0) : Gr (lev (insC l (sk l id) ⟨id, t, r⟩)) := by
  obtain ⟨h1, h2, h3, h4, h5, h6⟩ := joinE_zero hE
  have hl := h.len
  have hk := sk_le l id
  refine Gr.of_lev (by rw [insC_len hk]; omega) (fun i j hij hj => ?_) (fun i hi' => ?_)
  · rw [insC_len hk] at hj
    rw [ca_ins hk hj, ca_ins hk (by omega)]
    split
    · rename_i e1
      split
      · rename_i e2; exact h.ids i j hij (by omega)
      · rename_i e2
        split
        · exact sk_before e1
        · rename_i e3
          have a := sk_before e1
          have b := sk_from h.ids (id := id) (i := j - 1) (by omega) (by omega)
          omega
    · rename_i e1
      split
      · rename_i e2
        rw [if_neg (by omega), if_neg (by omega)]
        have b := sk_from h.ids (id := id) (i := j - 1) (by omega) (by omega)
        have c := hs_no h.ids h1 (i := j - 1) (by omega)
        simp only; omega
      · rename_i e2
        rw [if_neg (by omega), if_neg (by omega)]
        exact h.ids (i - 1) (j - 1) (by omega) (by omega)
  · rw [insC_len hk] at hi'
    rw [ca_ins hk hi']
    split
    · exact h.rng i (by omega)
    · split
      · exact ⟨hi, h2, h3, h4, h5⟩
      · exact h.rng (i - 1) (by omega)
theorem Gr.join {l : List Cl} (h : Gr l) {id t r : Int} (hi : I64 id) : Gr (joinM l id t r) := by
  unfold joinM
  split
  · rename_i hE; exact h.ins hi hE
  · exact h
def leaveE (l : List Cl) (id : Int) : Int := if hs l id then 0 else 8
def leaveV (l : List Cl) (id : Int) : Int := if hs l id then (ca l (sk l id)).ps else 0
def leaveM (l : List Cl) (id : Int) : List Cl := if hs l id then lev (delC l (sk l id)) else l
theorem Gr.leave {l : List Cl} (h : Gr l) (id : Int) : Gr (leaveM l id) := by
  unfold leaveM
  split
  · rename_i hE
    obtain ⟨hk, e⟩ := hs_yes hE
    have hl := h.len
    refine Gr.of_lev (by rw [delC_len hk]; omega) (fun i j hij hj => ?_) (fun i hi' => ?_)
    · rw [delC_len hk] at hj
      rw [ca_del hk hj, ca_del hk (by omega)]
      split <;> split <;> exact h.ids _ _ (by omega) (by omega)
    · rw [delC_len hk] at hi'
      rw [ca_del hk hi']
      split <;> exact h.rng _ (by omega)
  · exact h
def changeE (l : List Cl) (id t : Int) : Int := if hs l id then if tkOk t then 0 else 1 else 8
def chC (c : Cl) (t : Int) : Cl := ⟨c.id, t, c.ps * c.tk / t⟩
def changeM (l : List Cl) (id t : Int) : List Cl := if changeE l id t = 0 then l.set (sk l id) (chC (ca l (sk l id)) t) else l
theorem changeE_zero {l : List Cl} {id t : Int} (h : changeE l id t = 0) : hs l id = true ∧ 1 ≤ t ∧ t ≤ 16 := by
  unfold changeE at h
  split at h
  · rename_i h1
    split at h
    · rename_i h2; exact ⟨h1, tkOk_yes h2⟩
    · omega
  · omega
theorem ch_rng {c : Cl} {t : Int} (h1 : 1 ≤ c.tk) (h2 : c.tk ≤ 16) (h3 : 0 ≤ c.ps) (h4 : c.ps ≤ stv c.tk) (h5 : 1 ≤ t) (h6 : t ≤ 16) : 0 ≤ c.ps * c.tk ∧ c.ps * c.tk ≤ 720720 ∧ 0 ≤ c.ps * c.tk / t ∧ c.ps * c.tk / t ≤ stv t := by
  have a : c.ps * c.tk ≤ 720720 := by
    have := stv_mul h1 h2
    rw [← this, Int.mul_comm]
    exact Int.mul_le_mul_of_nonneg_left h4 (by omega)
  have b : 0 ≤ c.ps * c.tk := Int.mul_nonneg h3 (by omega)
  exact ⟨b, a, Int.ediv_nonneg b (by omega), Int.ediv_le_ediv (by omega) a⟩
theorem ch_low {l : List Cl} (h : Gr l) {i : Nat} {t : Int} (hi : i < l.length) (h5 : 1 ≤ t) (h6 : t ≤ 16) : low (l.set i (chC (ca l i) t)) = 0 := by
  have hp : 0 < l.length := by omega
  obtain ⟨_, r1, r2, r3, r4⟩ := h.rng i hi
  have rg := ch_rng r1 r2 r3 r4 h5 h6
  refine low_eq (m := 0) (fun j hj => ?_) (j := bs l) (by rw [List.length_set]; exact bs_lt hp) ?_
  · rw [List.length_set] at hj
    rw [ca_set hj]
    split
    · exact rg.2.2.1
    · exact (h.rng j hj).2.2.2.1
  · rw [ca_set (bs_lt hp)]
    have hl := h.low hp
    unfold Go.Proofs.Ytdenhpclopjjgaa.low at hl
    split
    · rename_i e
      subst e
      unfold chC
      simp only
      rw [hl]; simp
    · exact hl
theorem Gr.change {l : List Cl} (h : Gr l) (id t : Int) : Gr (changeM l id t) := by
  unfold changeM
  split
  · rename_i hE
    obtain ⟨h1, h2, h3⟩ := changeE_zero hE
    obtain ⟨hk, e⟩ := hs_yes h1
    have hz := ch_low h hk h2 h3
    have := Gr.of_lev (l := l.set (sk l id) (chC (ca l (sk l id)) t)) (by rw [List.length_set]; exact h.len) (fun i j hij hj => by
      rw [List.length_set] at hj
      have := h.ids i j hij hj
      rw [ca_set hj, ca_set (by omega)]
      split <;> split <;> (first | (rename_i e1 e2; subst e1; simpa [chC] using this) | (rename_i e1 e2; subst e2; simpa [chC] using this) | exact this | omega)) (fun i hi => by
      rw [List.length_set] at hi
      rw [ca_set hi]
      split
      · obtain ⟨a, b, c, d, f⟩ := h.rng _ hk
        have := ch_rng b c d f h2 h3
        exact ⟨a, h2, h3, this.2.2.1, this.2.2.2⟩
      · exact h.rng i hi)
    rwa [lev_zero hz] at this
  · exact h
def pickE (l : List Cl) : Int := if l.length = 0 then 8 else 0
def pickV (l : List Cl) : Int := if l.length = 0 then 0 else pid l
def pickM (l : List Cl) : List Cl := if l.length = 0 then l else pk l
theorem Gr.pick {l : List Cl} (h : Gr l) : Gr (pickM l) := by
  unfold pickM
  split
  · exact h
  · exact h.pk (by omega)
def runE (l : List Cl) (n : Int) : Int := if n < 0 ∨ 100000 < n then 1 else if 0 < n ∧ l.length = 0 then 8 else 0
def runV (l : List Cl) (n : Int) : List Int := if runE l n = 0 then pids l n.toNat else []
def runM (l : List Cl) (n : Int) : List Cl := if runE l n = 0 then pks l n.toNat else l
theorem pks_nil (n : Nat) : pks [] n = [] := by have := pks_len [] n; exact List.length_eq_zero_iff.1 this
theorem Gr.run {l : List Cl} (h : Gr l) (n : Int) : Gr (runM l n) := by
  unfold runM
  split
  · by_cases hp : 0 < l.length
    · exact h.pks hp _
    · have : l = [] := List.length_eq_zero_iff.1 (by omega)
      subst this
      rw [pks_nil]; exact Gr.nil
  · exact h
theorem runE_zero {l : List Cl} {n : Int} (h : runE l n = 0) : 0 ≤ n ∧ n ≤ 100000 ∧ (0 < n → 0 < l.length) := by
  unfold runE at h
  split at h
  · omega
  · rename_i h1
    split at h
    · omega
    · rename_i h2
      exact ⟨by omega, by omega, fun hn => by omega⟩

end Go.Proofs.Ytdenhpclopjjgaa
